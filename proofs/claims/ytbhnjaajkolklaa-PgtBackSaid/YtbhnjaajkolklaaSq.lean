/- Arguments that hold slices, opened: sizes, rows of structs, words and numbers. -/
import Derived.Test.YtbhnjaajkolklaaOwn
import Derived.Test.YtbhnjaajkolklaaEo
import Derived.SizedLaws
set_option linter.all false
namespace Go.Proofs.Ytbhnjaajkolklaa
open Go.ChangeShapes Go.WideShapes Go.ChangeAt Go.RowKit Go.Deep

section
variable {H : Type} {enc : TypeId × Value → H} {w : World} {base : Nat} {held : Bool}

/-- No string and no slice in it is greater than can be. -/
def Lite (P : Program) (t : TypeId) (d : DataW H) : Prop := ∀ n ∈ d.weights P t, n ≤ reachBytes
theorem weightsAll_mem {P : Program} {e : TypeId} : ∀ {ds : List (DataW H)} {d : DataW H}, d ∈ ds → ∀ n ∈ d.weights P e, n ∈ DataW.weightsAll P e ds
  | d0 :: ds, d, hd, n, hn => by
    simp only [DataW.weightsAll, List.mem_append]
    rcases List.mem_cons.1 hd with rfl | hd
    · exact .inl hn
    · exact .inr (weightsAll_mem hd n hn)
theorem Lite.slice {P : Program} {t e : TypeId} {elems sp : List (DataW H)} (h : Lite P t (.slice elems sp)) (ht : P.underlying t = some (.slice e)) :
    (elems.length + sp.length) * P.bytesOf e ≤ reachBytes ∧ ∀ d ∈ elems, Lite P e d := by
  refine ⟨h _ (by simp [DataW.weights, ht]), fun d hd n hn => h n ?_⟩
  have := weightsAll_mem (P := P) hd n hn
  simp only [DataW.weights, ht, List.mem_cons, List.mem_append]
  exact .inr (.inl this)
theorem Lite.struct {P : Program} {t : TypeId} {fs : Array Field} {parts : List (DataW H)} (h : Lite P t (.agg parts)) (ht : P.underlying t = some (.struct fs)) (j : Nat) (f : Field) (d : DataW H) (hf : fs[j]? = some f) (hd : parts[j]? = some d) : Lite P f.type d := by
  intro n hn
  refine h n ?_
  simp only [DataW.weights, ht]
  exact DataW.weights_mem_each (j := j) (t := f.type) (d := d) (by simp [hf]) hd n hn

theorem bytes_word : Try.prog.bytesOf 45 = 8 := by kernel_rfl
theorem bytes_int : Try.prog.bytesOf 3 = 8 := by kernel_rfl
theorem reach_small : reachBytes < 140737488355328 := by decide
theorem cells_word : Try.prog.cellsOf 45 = 1 := by kernel_rfl
theorem cells_int : Try.prog.cellsOf 3 = 1 := by kernel_rfl
theorem cells_mem : Try.prog.cellsOf 24 = 1 := by kernel_rfl

end

/-- A slice of elements of N cells each. -/
def SeqAt {Q : Type} (N : Nat) (V : Q → Array Value) (Ok : World → Q → Prop) (W : World) (f : Option Addr) (l : Nat) (q : Nat → Q) : Prop :=
  ∀ i, i < l → ∃ b o, f = some ⟨b, o, none⟩ ∧ RowAt W b (o + i * N) N (V (q i)) ∧ Ok W (q i)
theorem SeqAt.below {Q : Type} {N : Nat} {V : Q → Array Value} {Ok : World → Q → Prop} {W w : World} {f : Option Addr} {l : Nat} {q : Nat → Q} (h : SeqAt N V Ok W f l q) (hb : Below W.heap.size W w)
    (hOk : ∀ x, Ok W x → Ok w x) : SeqAt N V Ok w f l q := by
  intro i hi
  obtain ⟨b, o, hf, hr, ho⟩ := h i hi
  exact ⟨b, o, hf, hr.below hb, hOk _ ho⟩
section
variable {H : Type} {enc : TypeId × Value → H} {w : World} {base : Nat} {held : Bool}
theorem seq_of {t e : TypeId} {N B n : Nat} {c : Value} {y : DataW H × List MemPlace} {Q : Type} (V : Q → Array Value) (Ok : World → Q → Prop) (q0 : Q) (ht : Try.prog.underlying t = some (.slice e)) (hC : Try.prog.cellsOf e = N) (hN : 0 < N) (hB : Try.prog.bytesOf e = B) (hB0 : 1 ≤ B)
    (hcell : ∀ {n : Nat} {cs : List Value} {y : DataW H × List MemPlace}, cs.length = N → DataW.trod enc Try.prog w base (fun _ => true) held n e cs = some y → Lite Try.prog e y.1 → ∃ q, cs = (V q).toList ∧ Ok w q)
    (h : DataW.trod enc Try.prog w base (fun _ => true) held n t [c] = some y) (hz : Lite Try.prog t y.1) :
    ∃ (f : Option Addr) (l cap : Nat) (q : Nat → Q), c = .slice f l cap ∧ l ≤ cap ∧ l * B ≤ reachBytes ∧ SeqAt N V Ok w f l q := by
  subst hB
  rcases open_slice ht h with ⟨hcs, _⟩ | ⟨a, len, cap, m, n, D, Pl, hcs, _, hl, hm, hmm, hx, hi⟩
  · exact ⟨none, 0, 0, fun _ => q0, by simpa using hcs, Nat.le_refl _, by simp, fun i hi => absurd hi (by omega)⟩
  · simp at hcs
    subst hcs
    simp only [if_true] at hmm
    rw [hx] at hz
    obtain ⟨hzs, hze⟩ := Lite.slice hz ht
    simp only [List.length_map, List.length_range] at hzs
    have hzl : len * Try.prog.bytesOf e ≤ reachBytes := Nat.le_trans (Nat.mul_le_mul_right _ (by omega)) hzs
    clear hzs
    rw [hmm] at hi
    clear hmm
    by_cases hz : len = 0
    · subst hz; exact ⟨_, 0, _, fun _ => q0, rfl, Nat.zero_le _, by simp, fun i hi => absurd hi (by omega)⟩
    · have hel : ∀ i, i < len → ∃ q : Q, (∀ j, j < N → w.cell? ((a.add (i * N)).add j) = (V q)[j]?) ∧ Ok w q ∧ (V q).size = N := by
        intro i hil
        obtain ⟨cs, hc, htr⟩ := hi i (by omega)
        rw [hC] at hc
        obtain ⟨_, hlen, hat⟩ := World.cells?_some hc
        obtain ⟨q, hq, hb⟩ := hcell hlen htr (hze _ (List.mem_map.2 ⟨i, List.mem_range.2 hil, rfl⟩))
        exact ⟨q, fun j hj => by rw [hat j hj, hq, Array.getElem?_toList], hb, by rw [← hlen, hq, Array.length_toList]⟩
      obtain ⟨q1, hq1, _, hs1⟩ := hel 0 (by omega)
      have hc0 := hq1 0 hN
      have ha : (a.add (0 * N)).add 0 = a := by simp [Addr.add]
      rw [ha, Array.getElem?_eq_getElem (by omega)] at hc0
      have hsp := World.cell?_spot hc0
      obtain ⟨b, o, sp⟩ := a
      simp only at hsp
      subst hsp
      have hrow : ∀ i, i < len → ∃ q : Q, RowAt w b (o + i * N) N (V q) ∧ Ok w q := by
        intro i hil
        obtain ⟨q, hq, hb, _⟩ := hel i hil
        refine ⟨q, ⟨cell_block hc0, fun j hj => ?_⟩, hb⟩
        have := hq j hj
        rw [add_none, add_none] at this
        exact this
      have : Inhabited Q := ⟨q0⟩
      obtain ⟨g, hg⟩ := choose_lt hrow
      exact ⟨_, len, cap, g, rfl, hl, hzl, fun i hi => ⟨b, o, rfl, hg i hi⟩⟩
/-- A part of a struct, with its sizes. -/
theorem part_lite {t : TypeId} {fs : Array Field} {n : Nat} {cs : List Value} {y : DataW H × List MemPlace} (he : Try.prog.underlying t = some (.struct fs)) (h : DataW.trod enc Try.prog w base (fun _ => true) held n t cs = some y) (hz : Lite Try.prog t y.1) (j off c : Nat) (ty : TypeId) (hf : ∃ f, fs[j]? = some f ∧ f.type = ty ∧ f.offset = off) (hc : Try.prog.cellsOf ty = c) :
    ∃ (z : DataW H × List MemPlace) (m : Nat), DataW.trod enc Try.prog w base (fun _ => true) held m ty ((cs.drop off).take c) = some z ∧ Lite Try.prog ty z.1 := by
  obtain ⟨f, hj, rfl, rfl⟩ := hf
  subst hc
  obtain ⟨xs, m, _, hx, _, hl, hf⟩ := DataW.trod_struct he h
  have hjl : j < fs.size := (Array.getElem?_eq_some_iff.1 hj).1
  have hyj : xs[j]? = some (xs[j]'(by omega)) := List.getElem?_eq_getElem (by omega)
  rw [hx] at hz
  exact ⟨_, m, (hf j f hj).trans hyj, Lite.struct hz he j f _ hj (by simp [hyj])⟩
theorem nums_cap {n : Nat} {c : Value} {y : DataW H × List MemPlace} (h : DataW.trod enc Try.prog w base (fun _ => true) held n 25 [c] = some y) (hz : Lite Try.prog 25 y.1) :
    ∃ (f : Option Addr) (l cap : Nat) (N : Nat → Int), c = .slice f l cap ∧ l ≤ 1000000000000000 ∧ l ≤ cap ∧ NumsAt w f l N := by
  obtain ⟨f, l, cap, q, rfl, hc, hl, hq⟩ := seq_of (fun a : Int => #[.int .i64 a]) (fun _ _ => True) 0 Try.underlying25 cells_int (by decide) bytes_int (by decide) (fun hl ht _ => by
    obtain ⟨a, rfl, _⟩ := int_cells ht
    exact ⟨a, rfl, trivial⟩) h hz
  have := reach_small
  refine ⟨f, l, cap, q, rfl, by omega, hc, fun j hj => ?_⟩
  obtain ⟨b, o, hf, hr, _⟩ := hq j hj
  have := hr.get0 (.int .i64 (q j)) (by decide) rfl
  rw [Nat.mul_one] at this
  exact ⟨b, o, hf, this⟩
theorem words_cap {n : Nat} {c : Value} {y : DataW H × List MemPlace} (h : DataW.trod enc Try.prog w base (fun _ => true) held n 22 [c] = some y) (hz : Lite Try.prog 22 y.1) :
    ∃ (f : Option Addr) (l cap : Nat) (X : Nat → BitVec 64), c = .slice f l cap ∧ l ≤ 1000000000000000 ∧ l ≤ cap ∧ WordsAt w f l X := by
  obtain ⟨f, l, cap, q, rfl, hc, hl, hq⟩ := seq_of (fun a : BitVec 64 => #[.int .u64 (u a)]) (fun _ _ => True) 0 Try.underlying22 cells_word (by decide) bytes_word (by decide) (fun hl ht _ => by
    obtain ⟨a, rfl⟩ := word_cells ht
    exact ⟨a, rfl, trivial⟩) h hz
  have := reach_small
  refine ⟨f, l, cap, q, rfl, by omega, hc, fun j hj => ?_⟩
  obtain ⟨b, o, hf, hr, _⟩ := hq j hj
  have := hr.get0 (.int .u64 (u (q j))) (by decide) rfl
  rw [Nat.mul_one] at this
  exact ⟨b, o, hf, this⟩
end
end Go.Proofs.Ytbhnjaajkolklaa
