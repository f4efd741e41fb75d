/- Arguments that hold slices, opened: sizes, rows of structs, words and numbers. -/
import Derived.Test.YtlflfpohglgopaaOwn
import Derived.Test.YtlflfpohglgopaaSl
import Derived.SizedLaws
set_option linter.all false
namespace Go.Proofs.Ytlflfpohglgopaa
open Go.ChangeShapes Go.WideShapes Go.ChangeAt Go.RowKit Go.Deep

section
variable {H : Type} {enc : TypeId × Value → H} {w : World} {base : Nat} {held : Bool}

/-- No string and no slice in it is greater than can be. -/
def Lite (P : Program) (t : TypeId) (d : DataW H) : Prop := ∀ n ∈ d.weights P t, n ≤ reachBytes
theorem weightsAll_mem {P : Program} {e : TypeId} : ∀ {ds : List (DataW H)} {d : DataW H}, d ∈ ds → ∀ n ∈ d.weights P e, n ∈ DataW.weightsAll P e ds
  | d0 :: ds, d, hd, n, hn => by
    simp only [DataW.weightsAll, List.mem_append]
    rcases List.mem_cons.1 hd with rfl | hd
    · exact .inl hn
    · exact .inr (weightsAll_mem hd n hn)
theorem Lite.slice {P : Program} {t e : TypeId} {elems sp : List (DataW H)} (h : Lite P t (.slice elems sp)) (ht : P.underlying t = some (.slice e)) :
    (elems.length + sp.length) * P.bytesOf e ≤ reachBytes ∧ ∀ d ∈ elems, Lite P e d := by
  refine ⟨h _ (by simp [DataW.weights, ht]), fun d hd n hn => h n ?_⟩
  have := weightsAll_mem (P := P) hd n hn
  simp only [DataW.weights, ht, List.mem_cons, List.mem_append]
  exact .inr (.inl this)
theorem Lite.struct {P : Program} {t : TypeId} {fs : Array Field} {parts : List (DataW H)} (h : Lite P t (.agg parts)) (ht : P.underlying t = some (.struct fs)) (j : Nat) (f : Field) (d : DataW H) (hf : fs[j]? = some f) (hd : parts[j]? = some d) : Lite P f.type d := by
  intro n hn
  refine h n ?_
  simp only [DataW.weights, ht]
  exact DataW.weights_mem_each (j := j) (t := f.type) (d := d) (by simp [hf]) hd n hn

/-- A slice of one-cell elements: it has none, or each is a cell with a reading of its own. -/
theorem slice_one {P : Program} {t e : TypeId} {fuel : Nat} {v : Value} {x : DataW H × List MemPlace} (ht : P.underlying t = some (.slice e)) (hC : P.cellsOf e = 1) (h : DataW.trod enc P w base (fun _ => true) held fuel t [v] = some x) (hz : Lite P t x.1) :
    (∃ (a : Option Addr) (cap : Nat), v = .slice a 0 cap) ∨
    ∃ (b o len cap : Nat), v = .slice (some ⟨b, o, none⟩) len cap ∧ 0 < len ∧ len ≤ cap ∧ len * P.bytesOf e ≤ reachBytes ∧
      ∀ i, i < len → ∃ (c : Value) (y : DataW H × List MemPlace) (n : Nat), w.cell? ⟨b, o + i, none⟩ = some c ∧ DataW.trod enc P w base (fun _ => true) held n e [c] = some y := by
  rcases open_slice ht h with ⟨hcs, _⟩ | ⟨a, len, cap, m, n, D, Pl, hcs, _, hl, hm, hmm, hx, hi⟩
  · exact .inl ⟨none, 0, by simpa using hcs⟩
  · simp at hcs
    subst hcs
    simp only [if_true] at hmm
    rw [hx] at hz
    have hzs := (Lite.slice hz ht).1
    simp only [List.length_map, List.length_range] at hzs
    have hzl : len * P.bytesOf e ≤ reachBytes := Nat.le_trans (Nat.mul_le_mul_right _ (by omega)) hzs
    clear hzs
    rw [hmm] at hi
    clear hmm
    by_cases hz : len = 0
    · subst hz; exact .inl ⟨_, _, rfl⟩
    · have hel : ∀ i, i < len → ∃ (c : Value) (y : DataW H × List MemPlace) (n : Nat), w.cell? (a.add i) = some c ∧ DataW.trod enc P w base (fun _ => true) held n e [c] = some y := by
        intro i hil
        obtain ⟨cs, hc, htr⟩ := hi i (by omega)
        rw [hC] at hc
        obtain ⟨_, hlen, hat⟩ := World.cells?_some hc
        have h0 := hat 0 (by omega)
        obtain ⟨c, rfl⟩ := List.length_eq_one_iff.1 hlen
        rw [Nat.mul_one] at h0
        have ha : (a.add i).add 0 = a.add i := by simp [Addr.add]
        rw [ha] at h0
        exact ⟨c, _, _, h0, htr⟩
      obtain ⟨c, _, _, hc, _⟩ := hel 0 (by omega)
      have ha : a.add 0 = a := by simp [Addr.add]
      rw [ha] at hc
      have hsp := World.cell?_spot hc
      obtain ⟨b, o, sp⟩ := a
      simp only at hsp
      subst hsp
      refine .inr ⟨b, o, len, cap, rfl, by omega, hl, hzl, fun i hil => ?_⟩
      have := hel i hil
      rw [add_none] at this
      exact this

/-- The cells of a struct of one-cell fields, each with its own reading. -/
theorem struct_lite {P : Program} {e : TypeId} {fs : Array Field} {fuel : Nat} {a : Addr} {cs : List Value} {x : DataW H × List MemPlace} (he : P.underlying e = some (.struct fs)) (hone : oneCellFields P fs = true)
    (hcs : w.cells? base a fs.size = some cs) (h : DataW.trod enc P w base (fun _ => true) held fuel e cs = some x) (hz : Lite P e x.1) (j : Nat) (f : Field) (hj : fs[j]? = some f) :
    ∃ (v : Value) (y : DataW H × List MemPlace) (n : Nat), w.cell? (a.add j) = some v ∧ DataW.trod enc P w base (fun _ => true) held n f.type [v] = some y ∧ Lite P f.type y.1 := by
  obtain ⟨_, hlen, hat⟩ := World.cells?_some hcs
  obtain ⟨ys, n, _, hx, _, hys, hf⟩ := DataW.trod_struct he h
  obtain ⟨ho, hc⟩ := hone_of hone j f hj
  have hjl : j < fs.size := (Array.getElem?_eq_some_iff.1 hj).1
  have hd : (cs.drop j).take 1 = [cs[j]'(by omega)] := by
    rw [List.drop_eq_getElem_cons (by omega)]; rfl
  have h1 := hf j f hj
  have hyj : ys[j]? = some (ys[j]'(by omega)) := List.getElem?_eq_getElem (by omega)
  rw [ho, hc, hd, hyj] at h1
  rw [hx] at hz
  exact ⟨_, _, n, (hat j hjl).trans (List.getElem?_eq_getElem (by omega)), h1, Lite.struct hz he j f _ hj (by simp [hyj])⟩

/-- A slice of structs: it has no element, or each of its elements' fields is a cell with a reading of its own. -/
theorem slice_lite {P : Program} {t e : TypeId} {fs : Array Field} {fuel : Nat} {v : Value} {x : DataW H × List MemPlace} (ht : P.underlying t = some (.slice e)) (he : P.underlying e = some (.struct fs))
    (hone : oneCellFields P fs = true) (hC : P.cellsOf e = fs.size) (h0 : 0 < fs.size) (h : DataW.trod enc P w base (fun _ => true) held fuel t [v] = some x) (hz : Lite P t x.1) :
    (∃ (a : Option Addr) (cap : Nat), v = .slice a 0 cap) ∨
    ∃ (b o len cap : Nat), v = .slice (some ⟨b, o, none⟩) len cap ∧ 0 < len ∧ len ≤ cap ∧ len * P.bytesOf e ≤ reachBytes ∧
      ∀ i, i < len → ∀ (j : Nat) (f : Field), fs[j]? = some f → ∃ (c : Value) (y : DataW H × List MemPlace) (n : Nat), w.cell? ⟨b, o + i * fs.size + j, none⟩ = some c ∧ DataW.trod enc P w base (fun _ => true) held n f.type [c] = some y ∧ Lite P f.type y.1 := by
  rcases open_slice ht h with ⟨hcs, _⟩ | ⟨a, len, cap, m, n, D, Pl, hcs, _, hl, hm, hmm, hx, hi⟩
  · exact .inl ⟨none, 0, by simpa using hcs⟩
  · simp at hcs
    subst hcs
    simp only [if_true] at hmm
    rw [hx] at hz
    obtain ⟨hzs, hze⟩ := Lite.slice hz ht
    simp only [List.length_map, List.length_range] at hzs
    have hzl : len * P.bytesOf e ≤ reachBytes := Nat.le_trans (Nat.mul_le_mul_right _ (by omega)) hzs
    clear hzs
    rw [hmm] at hi
    clear hmm
    by_cases hz : len = 0
    · subst hz; exact .inl ⟨_, _, rfl⟩
    · have hel : ∀ i, i < len → ∀ (j : Nat) (f : Field), fs[j]? = some f → ∃ (c : Value) (y : DataW H × List MemPlace) (n : Nat), w.cell? ((a.add (i * fs.size)).add j) = some c ∧ DataW.trod enc P w base (fun _ => true) held n f.type [c] = some y ∧ Lite P f.type y.1 := by
        intro i hil j f hj
        obtain ⟨cs, hc, htr⟩ := hi i (by omega)
        rw [hC] at hc
        exact struct_lite he hone hc htr (hze _ (List.mem_map.2 ⟨i, List.mem_range.2 hil, rfl⟩)) j f hj
      have hf0 : fs[0]? = some (fs[0]'h0) := Array.getElem?_eq_getElem h0
      obtain ⟨c, _, _, hc, _⟩ := hel 0 (by omega) 0 _ hf0
      have ha : (a.add (0 * fs.size)).add 0 = a := by simp [Addr.add]
      rw [ha] at hc
      have hsp := World.cell?_spot hc
      obtain ⟨b, o, sp⟩ := a
      simp only at hsp
      subst hsp
      refine .inr ⟨b, o, len, cap, rfl, by omega, hl, hzl, fun i hil j f hj => ?_⟩
      have := hel i hil j f hj
      rw [add_none, add_none] at this
      exact this

theorem bytes_word : Try.prog.bytesOf 23 = 8 := by kernel_rfl
theorem bytes_int : Try.prog.bytesOf 3 = 8 := by kernel_rfl
theorem reach_small : reachBytes < 140737488355328 := by decide
theorem cells_word : Try.prog.cellsOf 23 = 1 := by kernel_rfl
theorem cells_int : Try.prog.cellsOf 3 = 1 := by kernel_rfl
theorem words_cells {n : Nat} {c : Value} {y : DataW H × List MemPlace} (h : DataW.trod enc Try.prog w base (fun _ => true) held n 62 [c] = some y) (hz : Lite Try.prog 62 y.1) :
    ∃ (f : Option Addr) (l cap : Nat) (X : Nat → BitVec 64), c = .slice f l cap ∧ l ≤ 1000000000000000 ∧ WordsAt w f l X := by
  rcases slice_one Try.underlying62 cells_word h hz with ⟨a, cap, hv⟩ | ⟨b, o, len, cap, hv, hl, hle, hm, hi⟩
  · exact ⟨a, 0, cap, fun _ => 0, hv, by omega, CellsAt.empty _ _ _⟩
  · have : ∀ i, i < len → ∃ x : BitVec 64, w.cell? ⟨b, o + i, none⟩ = some (.int .u64 (u x)) := by
      intro i hil
      obtain ⟨c, _, _, hc, ht⟩ := hi i hil
      obtain ⟨x, rfl⟩ := word_cell ht
      exact ⟨x, hc⟩
    obtain ⟨g, hg⟩ := choose_lt this
    have := reach_small
    rw [bytes_word] at hm
    exact ⟨_, len, cap, g, hv, by omega, fun j hj => ⟨b, o, rfl, hg j hj⟩⟩

theorem nums_cells {n : Nat} {c : Value} {y : DataW H × List MemPlace} (h : DataW.trod enc Try.prog w base (fun _ => true) held n 29 [c] = some y) (hz : Lite Try.prog 29 y.1) :
    ∃ (f : Option Addr) (l cap : Nat) (N : Nat → Int), c = .slice f l cap ∧ l ≤ 1000000000000000 ∧ NumsAt w f l N := by
  rcases slice_one Try.underlying29 cells_int h hz with ⟨a, cap, hv⟩ | ⟨b, o, len, cap, hv, hl, hle, hm, hi⟩
  · exact ⟨a, 0, cap, fun _ => 0, hv, by omega, CellsAt.empty _ _ _⟩
  · have : ∀ i, i < len → ∃ x : Int, w.cell? ⟨b, o + i, none⟩ = some (.int .i64 x) := by
      intro i hil
      obtain ⟨c, _, _, hc, ht⟩ := hi i hil
      obtain ⟨x, rfl, _⟩ := int_cell ht
      exact ⟨x, hc⟩
    obtain ⟨g, hg⟩ := choose_lt this
    have := reach_small
    rw [bytes_int] at hm
    exact ⟨_, len, cap, g, hv, by omega, fun j hj => ⟨b, o, rfl, hg j hj⟩⟩
end


/-- A slice of elements of N cells each. -/
def SeqAt {Q : Type} (N : Nat) (V : Q → Array Value) (Ok : World → Q → Prop) (W : World) (f : Option Addr) (l : Nat) (q : Nat → Q) : Prop :=
  ∀ i, i < l → ∃ b o, f = some ⟨b, o, none⟩ ∧ RowAt W b (o + i * N) N (V (q i)) ∧ Ok W (q i)
theorem SeqAt.below {Q : Type} {N : Nat} {V : Q → Array Value} {Ok : World → Q → Prop} {W w : World} {f : Option Addr} {l : Nat} {q : Nat → Q} (h : SeqAt N V Ok W f l q) (hb : Below W.heap.size W w)
    (hOk : ∀ x, Ok W x → Ok w x) : SeqAt N V Ok w f l q := by
  intro i hi
  obtain ⟨b, o, hf, hr, ho⟩ := h i hi
  exact ⟨b, o, hf, hr.below hb, hOk _ ho⟩
section
variable {H : Type} {enc : TypeId × Value → H} {w : World} {base : Nat} {held : Bool}
theorem seq_of {t e : TypeId} {N B n : Nat} {c : Value} {y : DataW H × List MemPlace} {Q : Type} (V : Q → Array Value) (Ok : World → Q → Prop) (q0 : Q) (ht : Try.prog.underlying t = some (.slice e)) (hC : Try.prog.cellsOf e = N) (hN : 0 < N) (hB : Try.prog.bytesOf e = B) (hB0 : 1 ≤ B)
    (hcell : ∀ {n : Nat} {cs : List Value} {y : DataW H × List MemPlace}, cs.length = N → DataW.trod enc Try.prog w base (fun _ => true) held n e cs = some y → Lite Try.prog e y.1 → ∃ q, cs = (V q).toList ∧ Ok w q)
    (h : DataW.trod enc Try.prog w base (fun _ => true) held n t [c] = some y) (hz : Lite Try.prog t y.1) :
    ∃ (f : Option Addr) (l cap : Nat) (q : Nat → Q), c = .slice f l cap ∧ l ≤ cap ∧ l * B ≤ reachBytes ∧ SeqAt N V Ok w f l q := by
  subst hB
  rcases open_slice ht h with ⟨hcs, _⟩ | ⟨a, len, cap, m, n, D, Pl, hcs, _, hl, hm, hmm, hx, hi⟩
  · exact ⟨none, 0, 0, fun _ => q0, by simpa using hcs, Nat.le_refl _, by simp, fun i hi => absurd hi (by omega)⟩
  · simp at hcs
    subst hcs
    simp only [if_true] at hmm
    rw [hx] at hz
    obtain ⟨hzs, hze⟩ := Lite.slice hz ht
    simp only [List.length_map, List.length_range] at hzs
    have hzl : len * Try.prog.bytesOf e ≤ reachBytes := Nat.le_trans (Nat.mul_le_mul_right _ (by omega)) hzs
    clear hzs
    rw [hmm] at hi
    clear hmm
    by_cases hz : len = 0
    · subst hz; exact ⟨_, 0, _, fun _ => q0, rfl, Nat.zero_le _, by simp, fun i hi => absurd hi (by omega)⟩
    · have hel : ∀ i, i < len → ∃ q : Q, (∀ j, j < N → w.cell? ((a.add (i * N)).add j) = (V q)[j]?) ∧ Ok w q ∧ (V q).size = N := by
        intro i hil
        obtain ⟨cs, hc, htr⟩ := hi i (by omega)
        rw [hC] at hc
        obtain ⟨_, hlen, hat⟩ := World.cells?_some hc
        obtain ⟨q, hq, hb⟩ := hcell hlen htr (hze _ (List.mem_map.2 ⟨i, List.mem_range.2 hil, rfl⟩))
        exact ⟨q, fun j hj => by rw [hat j hj, hq, Array.getElem?_toList], hb, by rw [← hlen, hq, Array.length_toList]⟩
      obtain ⟨q1, hq1, _, hs1⟩ := hel 0 (by omega)
      have hc0 := hq1 0 hN
      have ha : (a.add (0 * N)).add 0 = a := by simp [Addr.add]
      rw [ha, Array.getElem?_eq_getElem (by omega)] at hc0
      have hsp := World.cell?_spot hc0
      obtain ⟨b, o, sp⟩ := a
      simp only at hsp
      subst hsp
      have hrow : ∀ i, i < len → ∃ q : Q, RowAt w b (o + i * N) N (V q) ∧ Ok w q := by
        intro i hil
        obtain ⟨q, hq, hb, _⟩ := hel i hil
        refine ⟨q, ⟨cell_block hc0, fun j hj => ?_⟩, hb⟩
        have := hq j hj
        rw [add_none, add_none] at this
        exact this
      have : Inhabited Q := ⟨q0⟩
      obtain ⟨g, hg⟩ := choose_lt hrow
      exact ⟨_, len, cap, g, rfl, hl, hzl, fun i hi => ⟨b, o, rfl, hg i hi⟩⟩
/-- A part of a struct, with its sizes. -/
theorem part_lite {t : TypeId} {fs : Array Field} {n : Nat} {cs : List Value} {y : DataW H × List MemPlace} (he : Try.prog.underlying t = some (.struct fs)) (h : DataW.trod enc Try.prog w base (fun _ => true) held n t cs = some y) (hz : Lite Try.prog t y.1) (j off c : Nat) (ty : TypeId) (hf : ∃ f, fs[j]? = some f ∧ f.type = ty ∧ f.offset = off) (hc : Try.prog.cellsOf ty = c) :
    ∃ (z : DataW H × List MemPlace) (m : Nat), DataW.trod enc Try.prog w base (fun _ => true) held m ty ((cs.drop off).take c) = some z ∧ Lite Try.prog ty z.1 := by
  obtain ⟨f, hj, rfl, rfl⟩ := hf
  subst hc
  obtain ⟨xs, m, _, hx, _, hl, hf⟩ := DataW.trod_struct he h
  have hjl : j < fs.size := (Array.getElem?_eq_some_iff.1 hj).1
  have hyj : xs[j]? = some (xs[j]'(by omega)) := List.getElem?_eq_getElem (by omega)
  rw [hx] at hz
  exact ⟨_, m, (hf j f hj).trans hyj, Lite.struct hz he j f _ hj (by simp [hyj])⟩
theorem agg_cells {v : Value} {L : List Value} (h : v.cells.toList = L) (h1 : L.length ≠ 1) : v = .agg L.toArray := by
  cases v with
  | agg cs =>
    obtain ⟨cs⟩ := cs
    simp only [Value.cells] at h
    rw [h]
  | _ => exfalso; subst h; exact h1 (by simp [Value.cells])
theorem nums_cap {n : Nat} {c : Value} {y : DataW H × List MemPlace} (h : DataW.trod enc Try.prog w base (fun _ => true) held n 29 [c] = some y) (hz : Lite Try.prog 29 y.1) :
    ∃ (f : Option Addr) (l cap : Nat) (N : Nat → Int), c = .slice f l cap ∧ l ≤ 1000000000000000 ∧ l ≤ cap ∧ NumsAt w f l N := by
  obtain ⟨f, l, cap, q, rfl, hc, hl, hq⟩ := seq_of (fun a : Int => #[.int .i64 a]) (fun _ _ => True) 0 Try.underlying29 cells_int (by decide) bytes_int (by decide) (fun hl ht _ => by
    obtain ⟨a, rfl, _⟩ := int_cells ht
    exact ⟨a, rfl, trivial⟩) h hz
  have := reach_small
  refine ⟨f, l, cap, q, rfl, by omega, hc, fun j hj => ?_⟩
  obtain ⟨b, o, hf, hr, _⟩ := hq j hj
  have := hr.get0 (.int .i64 (q j)) (by decide) rfl
  rw [Nat.mul_one] at this
  exact ⟨b, o, hf, this⟩
theorem words_cap {n : Nat} {c : Value} {y : DataW H × List MemPlace} (h : DataW.trod enc Try.prog w base (fun _ => true) held n 62 [c] = some y) (hz : Lite Try.prog 62 y.1) :
    ∃ (f : Option Addr) (l cap : Nat) (X : Nat → BitVec 64), c = .slice f l cap ∧ l ≤ 1000000000000000 ∧ l ≤ cap ∧ WordsAt w f l X := by
  obtain ⟨f, l, cap, q, rfl, hc, hl, hq⟩ := seq_of (fun a : BitVec 64 => #[.int .u64 (u a)]) (fun _ _ => True) 0 Try.underlying62 cells_word (by decide) bytes_word (by decide) (fun hl ht _ => by
    obtain ⟨a, rfl⟩ := word_cells ht
    exact ⟨a, rfl, trivial⟩) h hz
  have := reach_small
  refine ⟨f, l, cap, q, rfl, by omega, hc, fun j hj => ?_⟩
  obtain ⟨b, o, hf, hr, _⟩ := hq j hj
  have := hr.get0 (.int .u64 (u (q j))) (by decide) rfl
  rw [Nat.mul_one] at this
  exact ⟨b, o, hf, this⟩
end
end Go.Proofs.Ytlflfpohglgopaa
