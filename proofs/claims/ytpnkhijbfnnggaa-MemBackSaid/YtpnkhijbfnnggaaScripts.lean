/- The argument of stage 2's laws, opened; the law's heavy. -/
import Derived.Test.YtpnkhijbfnnggaaMemA
import Derived.Test.YtpnkhijbfnnggaaOwn
import Derived.SizedLaws
namespace Go.Proofs.Ytpnkhijbfnnggaa
open Go.ChangeShapes Go.WideShapes Go.ChangeAt Go.RowKit Go.Deep

theorem i64_bounds {n : Int} (h : (Lit.int .i64 n).wf = true) : n ≤ 9223372036854775807 ∧ -9223372036854775808 ≤ n := by
  have h1 : IntKind.i64.min = -9223372036854775808 := rfl
  have h2 : IntKind.i64.max = 9223372036854775807 := rfl
  simp only [Lit.wf, Bool.and_eq_true, decide_eq_true_eq] at h
  omega
theorem u64_word {n : Int} (h : (Lit.int .u64 n).wf = true) : ∃ x : BitVec 64, n = u x := by
  have h1 : IntKind.u64.min = 0 := rfl
  have h2 : IntKind.u64.max = 18446744073709551615 := rfl
  simp only [Lit.wf, Bool.and_eq_true, decide_eq_true_eq] at h
  exact u_of n (by omega) (by omega)

section
variable {H : Type} {enc : TypeId × Value → H} {w : World} {base : Nat} {held : Bool}

theorem int_cell {n : Nat} {c : Value} {y : DataW H × List MemPlace} (h : DataW.trod enc Try.prog w base (fun _ => true) held n 3 [c] = some y) :
    ∃ a : Int, c = .int .i64 a ∧ a ≤ 9223372036854775807 ∧ -9223372036854775808 ≤ a := by
  obtain ⟨a, hc, _, hw⟩ := DataW.trod_int Try.underlying3 h
  simp at hc
  exact ⟨a, hc, i64_bounds hw⟩
theorem word_cell {n : Nat} {c : Value} {y : DataW H × List MemPlace} (h : DataW.trod enc Try.prog w base (fun _ => true) held n 30 [c] = some y) :
    ∃ x : BitVec 64, c = .int .u64 (u x) := by
  obtain ⟨a, hc, _, hw⟩ := DataW.trod_int Try.underlying30 h
  obtain ⟨x, rfl⟩ := u64_word hw
  simp at hc
  exact ⟨x, hc⟩

/-- No string and no slice in it is greater than can be. -/
def Lite (P : Program) (t : TypeId) (d : DataW H) : Prop := ∀ n ∈ d.weights P t, n ≤ reachBytes
theorem weightsAll_mem {P : Program} {e : TypeId} : ∀ {ds : List (DataW H)} {d : DataW H}, d ∈ ds → ∀ n ∈ d.weights P e, n ∈ DataW.weightsAll P e ds
  | d0 :: ds, d, hd, n, hn => by
    simp only [DataW.weightsAll, List.mem_append]
    rcases List.mem_cons.1 hd with rfl | hd
    · exact .inl hn
    · exact .inr (weightsAll_mem hd n hn)
theorem Lite.slice {P : Program} {t e : TypeId} {elems sp : List (DataW H)} (h : Lite P t (.slice elems sp)) (ht : P.underlying t = some (.slice e)) :
    (elems.length + sp.length) * P.bytesOf e ≤ reachBytes ∧ ∀ d ∈ elems, Lite P e d := by
  refine ⟨h _ (by simp [DataW.weights, ht]), fun d hd n hn => h n ?_⟩
  have := weightsAll_mem (P := P) hd n hn
  simp only [DataW.weights, ht, List.mem_cons, List.mem_append]
  exact .inr (.inl this)
theorem Lite.struct {P : Program} {t : TypeId} {fs : Array Field} {parts : List (DataW H)} (h : Lite P t (.agg parts)) (ht : P.underlying t = some (.struct fs)) (j : Nat) (f : Field) (d : DataW H) (hf : fs[j]? = some f) (hd : parts[j]? = some d) : Lite P f.type d := by
  intro n hn
  refine h n ?_
  simp only [DataW.weights, ht]
  exact DataW.weights_mem_each (j := j) (t := f.type) (d := d) (by simp [hf]) hd n hn

/-- A slice of one-cell elements: it has none, or each is a cell with a reading of its own. -/
theorem slice_one {P : Program} {t e : TypeId} {fuel : Nat} {v : Value} {x : DataW H × List MemPlace} (ht : P.underlying t = some (.slice e)) (hC : P.cellsOf e = 1) (h : DataW.trod enc P w base (fun _ => true) held fuel t [v] = some x) (hz : Lite P t x.1) :
    (∃ (a : Option Addr) (cap : Nat), v = .slice a 0 cap) ∨
    ∃ (b o len cap : Nat), v = .slice (some ⟨b, o, none⟩) len cap ∧ 0 < len ∧ len ≤ cap ∧ len * P.bytesOf e ≤ reachBytes ∧
      ∀ i, i < len → ∃ (c : Value) (y : DataW H × List MemPlace) (n : Nat), w.cell? ⟨b, o + i, none⟩ = some c ∧ DataW.trod enc P w base (fun _ => true) held n e [c] = some y := by
  rcases open_slice ht h with ⟨hcs, _⟩ | ⟨a, len, cap, m, n, D, Pl, hcs, _, hl, hm, hmm, hx, hi⟩
  · exact .inl ⟨none, 0, by simpa using hcs⟩
  · simp at hcs
    subst hcs
    simp only [if_true] at hmm
    rw [hx] at hz
    have hzs := (Lite.slice hz ht).1
    simp only [List.length_map, List.length_range] at hzs
    have hzl : len * P.bytesOf e ≤ reachBytes := Nat.le_trans (Nat.mul_le_mul_right _ (by omega)) hzs
    clear hzs
    rw [hmm] at hi
    clear hmm
    by_cases hz : len = 0
    · subst hz; exact .inl ⟨_, _, rfl⟩
    · have hel : ∀ i, i < len → ∃ (c : Value) (y : DataW H × List MemPlace) (n : Nat), w.cell? (a.add i) = some c ∧ DataW.trod enc P w base (fun _ => true) held n e [c] = some y := by
        intro i hil
        obtain ⟨cs, hc, htr⟩ := hi i (by omega)
        rw [hC] at hc
        obtain ⟨_, hlen, hat⟩ := World.cells?_some hc
        have h0 := hat 0 (by omega)
        obtain ⟨c, rfl⟩ := List.length_eq_one_iff.1 hlen
        rw [Nat.mul_one] at h0
        have ha : (a.add i).add 0 = a.add i := by simp [Addr.add]
        rw [ha] at h0
        exact ⟨c, _, _, h0, htr⟩
      obtain ⟨c, _, _, hc, _⟩ := hel 0 (by omega)
      have ha : a.add 0 = a := by simp [Addr.add]
      rw [ha] at hc
      have hsp := World.cell?_spot hc
      obtain ⟨b, o, sp⟩ := a
      simp only at hsp
      subst hsp
      refine .inr ⟨b, o, len, cap, rfl, by omega, hl, hzl, fun i hil => ?_⟩
      have := hel i hil
      rw [add_none] at this
      exact this

/-- The cells of a struct of one-cell fields, each with its own reading. -/
theorem struct_lite {P : Program} {e : TypeId} {fs : Array Field} {fuel : Nat} {a : Addr} {cs : List Value} {x : DataW H × List MemPlace} (he : P.underlying e = some (.struct fs)) (hone : oneCellFields P fs = true)
    (hcs : w.cells? base a fs.size = some cs) (h : DataW.trod enc P w base (fun _ => true) held fuel e cs = some x) (hz : Lite P e x.1) (j : Nat) (f : Field) (hj : fs[j]? = some f) :
    ∃ (v : Value) (y : DataW H × List MemPlace) (n : Nat), w.cell? (a.add j) = some v ∧ DataW.trod enc P w base (fun _ => true) held n f.type [v] = some y ∧ Lite P f.type y.1 := by
  obtain ⟨_, hlen, hat⟩ := World.cells?_some hcs
  obtain ⟨ys, n, _, hx, _, hys, hf⟩ := DataW.trod_struct he h
  obtain ⟨ho, hc⟩ := hone_of hone j f hj
  have hjl : j < fs.size := (Array.getElem?_eq_some_iff.1 hj).1
  have hd : (cs.drop j).take 1 = [cs[j]'(by omega)] := by
    rw [List.drop_eq_getElem_cons (by omega)]; rfl
  have h1 := hf j f hj
  have hyj : ys[j]? = some (ys[j]'(by omega)) := List.getElem?_eq_getElem (by omega)
  rw [ho, hc, hd, hyj] at h1
  rw [hx] at hz
  exact ⟨_, _, n, (hat j hjl).trans (List.getElem?_eq_getElem (by omega)), h1, Lite.struct hz he j f _ hj (by simp [hyj])⟩

/-- A slice of structs: it has no element, or each of its elements' fields is a cell with a reading of its own. -/
theorem slice_lite {P : Program} {t e : TypeId} {fs : Array Field} {fuel : Nat} {v : Value} {x : DataW H × List MemPlace} (ht : P.underlying t = some (.slice e)) (he : P.underlying e = some (.struct fs))
    (hone : oneCellFields P fs = true) (hC : P.cellsOf e = fs.size) (h0 : 0 < fs.size) (h : DataW.trod enc P w base (fun _ => true) held fuel t [v] = some x) (hz : Lite P t x.1) :
    (∃ (a : Option Addr) (cap : Nat), v = .slice a 0 cap) ∨
    ∃ (b o len cap : Nat), v = .slice (some ⟨b, o, none⟩) len cap ∧ 0 < len ∧ len ≤ cap ∧ len * P.bytesOf e ≤ reachBytes ∧
      ∀ i, i < len → ∀ (j : Nat) (f : Field), fs[j]? = some f → ∃ (c : Value) (y : DataW H × List MemPlace) (n : Nat), w.cell? ⟨b, o + i * fs.size + j, none⟩ = some c ∧ DataW.trod enc P w base (fun _ => true) held n f.type [c] = some y ∧ Lite P f.type y.1 := by
  rcases open_slice ht h with ⟨hcs, _⟩ | ⟨a, len, cap, m, n, D, Pl, hcs, _, hl, hm, hmm, hx, hi⟩
  · exact .inl ⟨none, 0, by simpa using hcs⟩
  · simp at hcs
    subst hcs
    simp only [if_true] at hmm
    rw [hx] at hz
    obtain ⟨hzs, hze⟩ := Lite.slice hz ht
    simp only [List.length_map, List.length_range] at hzs
    have hzl : len * P.bytesOf e ≤ reachBytes := Nat.le_trans (Nat.mul_le_mul_right _ (by omega)) hzs
    clear hzs
    rw [hmm] at hi
    clear hmm
    by_cases hz : len = 0
    · subst hz; exact .inl ⟨_, _, rfl⟩
    · have hel : ∀ i, i < len → ∀ (j : Nat) (f : Field), fs[j]? = some f → ∃ (c : Value) (y : DataW H × List MemPlace) (n : Nat), w.cell? ((a.add (i * fs.size)).add j) = some c ∧ DataW.trod enc P w base (fun _ => true) held n f.type [c] = some y ∧ Lite P f.type y.1 := by
        intro i hil j f hj
        obtain ⟨cs, hc, htr⟩ := hi i (by omega)
        rw [hC] at hc
        exact struct_lite he hone hc htr (hze _ (List.mem_map.2 ⟨i, List.mem_range.2 hil, rfl⟩)) j f hj
      have hf0 : fs[0]? = some (fs[0]'h0) := Array.getElem?_eq_getElem h0
      obtain ⟨c, _, _, hc, _⟩ := hel 0 (by omega) 0 _ hf0
      have ha : (a.add (0 * fs.size)).add 0 = a := by simp [Addr.add]
      rw [ha] at hc
      have hsp := World.cell?_spot hc
      obtain ⟨b, o, sp⟩ := a
      simp only at hsp
      subst hsp
      refine .inr ⟨b, o, len, cap, rfl, by omega, hl, hzl, fun i hil j f hj => ?_⟩
      have := hel i hil j f hj
      rw [add_none, add_none] at this
      exact this

theorem bytes_word : Try.prog.bytesOf 30 = 8 := by kernel_rfl
theorem bytes_int : Try.prog.bytesOf 3 = 8 := by kernel_rfl
theorem bytes_act : Try.prog.bytesOf 33 = 56 := by kernel_rfl
theorem reach_small : reachBytes < 140737488355328 := by decide
theorem cells_word : Try.prog.cellsOf 30 = 1 := by kernel_rfl
theorem cells_int : Try.prog.cellsOf 3 = 1 := by kernel_rfl
theorem cells_act : Try.prog.cellsOf 33 = 5 := by kernel_rfl
theorem cells_mem : Try.prog.cellsOf 24 = 1 := by kernel_rfl

theorem words_cells {n : Nat} {c : Value} {y : DataW H × List MemPlace} (h : DataW.trod enc Try.prog w base (fun _ => true) held n 22 [c] = some y) (hz : Lite Try.prog 22 y.1) :
    ∃ (f : Option Addr) (l cap : Nat) (X : Nat → BitVec 64), c = .slice f l cap ∧ l ≤ 1000000000000000 ∧ WordsAt w f l X := by
  rcases slice_one Try.underlying22 cells_word h hz with ⟨a, cap, hv⟩ | ⟨b, o, len, cap, hv, hl, hle, hm, hi⟩
  · exact ⟨a, 0, cap, fun _ => 0, hv, by omega, CellsAt.empty _ _ _⟩
  · have : ∀ i, i < len → ∃ x : BitVec 64, w.cell? ⟨b, o + i, none⟩ = some (.int .u64 (u x)) := by
      intro i hil
      obtain ⟨c, _, _, hc, ht⟩ := hi i hil
      obtain ⟨x, rfl⟩ := word_cell ht
      exact ⟨x, hc⟩
    obtain ⟨g, hg⟩ := choose_lt this
    have := reach_small
    rw [bytes_word] at hm
    exact ⟨_, len, cap, g, hv, by omega, fun j hj => ⟨b, o, rfl, hg j hj⟩⟩

theorem nums_cells {n : Nat} {c : Value} {y : DataW H × List MemPlace} (h : DataW.trod enc Try.prog w base (fun _ => true) held n 31 [c] = some y) (hz : Lite Try.prog 31 y.1) :
    ∃ (f : Option Addr) (l cap : Nat) (N : Nat → Int), c = .slice f l cap ∧ l ≤ 1000000000000000 ∧ NumsAt w f l N := by
  rcases slice_one Try.underlying31 cells_int h hz with ⟨a, cap, hv⟩ | ⟨b, o, len, cap, hv, hl, hle, hm, hi⟩
  · exact ⟨a, 0, cap, fun _ => 0, hv, by omega, CellsAt.empty _ _ _⟩
  · have : ∀ i, i < len → ∃ x : Int, w.cell? ⟨b, o + i, none⟩ = some (.int .i64 x) := by
      intro i hil
      obtain ⟨c, _, _, hc, ht⟩ := hi i hil
      obtain ⟨x, rfl, _⟩ := int_cell ht
      exact ⟨x, hc⟩
    obtain ⟨g, hg⟩ := choose_lt this
    have := reach_small
    rw [bytes_int] at hm
    exact ⟨_, len, cap, g, hv, by omega, fun j hj => ⟨b, o, rfl, hg j hj⟩⟩
end

/-- What an act holds. -/
structure ActV where
  d : Int
  a : Int
  s : Int
  v : BitVec 64
  f : Option Addr
  l : Nat
  c : Nat
  N : Nat → Int

/-- An act's five cells, at an address. -/
structure ActAt (W : World) (b o : Nat) (x : ActV) : Prop where
  c0 : W.cell? ⟨b, o, none⟩ = some (.int .i64 x.d)
  c1 : W.cell? ⟨b, o + 1, none⟩ = some (.int .i64 x.a)
  c2 : W.cell? ⟨b, o + 2, none⟩ = some (.int .i64 x.s)
  c3 : W.cell? ⟨b, o + 3, none⟩ = some (.int .u64 (u x.v))
  c4 : W.cell? ⟨b, o + 4, none⟩ = some (.slice x.f x.l x.c)
  nums : NumsAt W x.f x.l x.N
  len : x.l ≤ 1000000000000000
  a1 : x.a ≤ 9223372036854775807
  a0 : -9223372036854775808 ≤ x.a

instance : Inhabited ActV := ⟨⟨0, 0, 0, 0, none, 0, 0, fun _ => 0⟩⟩

theorem ActAt.below {W w : World} {b o : Nat} {x : ActV} (h : ActAt W b o x) (hb : Below W.heap.size W w) : ActAt w b o x :=
  ⟨keepc hb h.c0, keepc hb h.c1, keepc hb h.c2, keepc hb h.c3, keepc hb h.c4, h.nums.below hb, h.len, h.a1, h.a0⟩

/-- A slice of acts. -/
def ActsAt (W : World) (f : Option Addr) (l : Nat) (A : Nat → ActV) : Prop := ∀ i, i < l → ∃ b o, f = some ⟨b, o, none⟩ ∧ ActAt W b (o + i * 5) (A i)
theorem ActsAt.below {W w : World} {f : Option Addr} {l : Nat} {A : Nat → ActV} (h : ActsAt W f l A) (hb : Below W.heap.size W w) : ActsAt w f l A := by
  intro i hi
  obtain ⟨b, o, hf, ha⟩ := h i hi
  exact ⟨b, o, hf, ha.below hb⟩

section
variable {H : Type} {enc : TypeId × Value → H} {w : World} {base : Nat} {held : Bool}

theorem acts_cells {n : Nat} {c : Value} {y : DataW H × List MemPlace} (h : DataW.trod enc Try.prog w base (fun _ => true) held n 25 [c] = some y) (hz : Lite Try.prog 25 y.1) :
    ∃ (f : Option Addr) (l cap : Nat) (A : Nat → ActV), c = .slice f l cap ∧ l ≤ 1000000000000000 ∧ ActsAt w f l A := by
  rcases slice_lite Try.underlying25 Try.underlying33 (by kernel_rfl) cells_act (by decide) h hz with ⟨a, cap, hv⟩ | ⟨b, o, len, cap, hv, hl, hle, hm, hi⟩
  · exact ⟨a, 0, cap, fun _ => ⟨0, 0, 0, 0, none, 0, 0, fun _ => 0⟩, hv, by omega, fun i hi => absurd hi (by omega)⟩
  · have : ∀ i, i < len → ∃ x : ActV, ActAt w b (o + i * 5) x := by
      intro i hlt
      obtain ⟨c0, _, _, h0, t0, z0⟩ := hi i hlt 0 _ rfl
      obtain ⟨c1, _, _, h1, t1, z1⟩ := hi i hlt 1 _ rfl
      obtain ⟨c2, _, _, h2, t2, z2⟩ := hi i hlt 2 _ rfl
      obtain ⟨c3, _, _, h3, t3, z3⟩ := hi i hlt 3 _ rfl
      obtain ⟨c4, _, _, h4, t4, z4⟩ := hi i hlt 4 _ rfl
      obtain ⟨d, rfl, _, _⟩ := int_cell t0
      obtain ⟨a, rfl, a1, a0⟩ := int_cell t1
      obtain ⟨s, rfl, _, _⟩ := int_cell t2
      obtain ⟨x, rfl⟩ := word_cell t3
      obtain ⟨f, l, cp, N, rfl, hl, hf⟩ := nums_cells t4 z4
      exact ⟨⟨d, a, s, x, f, l, cp, N⟩, h0, h1, h2, h3, h4, hf, hl, a1, a0⟩
    obtain ⟨g, hg⟩ := choose_lt this
    have := reach_small
    rw [bytes_act] at hm
    exact ⟨_, len, cap, g, hv, by omega, fun i hi => ⟨b, o, rfl, hg i hi⟩⟩

/-- The argument of a law of stage 2. -/
theorem script_cells {n : Nat} {v : Value} {y : DataW H × List MemPlace} (h : DataW.trod enc Try.prog w base (fun _ => true) held n 27 v.cells.toList = some y) (hz : Lite Try.prog 27 y.1) :
    ∃ (f g : Option Addr) (l cap n d : Nat) (X : Nat → BitVec 64) (A : Nat → ActV), v = .agg #[.slice f l cap, .slice g n d] ∧ l ≤ 1000000000000000 ∧ n ≤ 1000000000000000 ∧ WordsAt w f l X ∧ ActsAt w g n A := by
  obtain ⟨xs, m, _, hy, hlen, hxl, hf⟩ := DataW.trod_struct Try.underlying27 h
  have hl2 : v.cells.toList.length = 2 := hlen.trans (by kernel_rfl)
  obtain ⟨c0, c1, hcs⟩ : ∃ c0 c1, v.cells.toList = [c0, c1] := by
    match hq : v.cells.toList, hl2 with
    | [c0, c1], _ => exact ⟨c0, c1, rfl⟩
  obtain ⟨x0, x1, rfl⟩ : ∃ x0 x1, xs = [x0, x1] := by
    match hq : xs, hxl with
    | [x0, x1], _ => exact ⟨x0, x1, rfl⟩
  rw [hcs] at hf
  rw [hy] at hz
  have k0 : Try.prog.cellsOf 24 = 1 := cells_mem
  have k1 : Try.prog.cellsOf 25 = 1 := by kernel_rfl
  have k2 : Try.prog.cellsOf 22 = 1 := by kernel_rfl
  have t0 : DataW.trod enc Try.prog w base (fun _ => true) held m 24 [c0] = some x0 := by
    have := hf 0 _ rfl
    simp only [List.getElem_toArray, List.getElem_cons_zero, k0, List.drop_zero, List.take_succ_cons, List.take_zero, List.getElem?_cons_zero] at this
    exact this
  have t1 : DataW.trod enc Try.prog w base (fun _ => true) held m 25 [c1] = some x1 := by
    have := hf 1 _ rfl
    simp only [List.getElem_toArray, List.getElem_cons_succ, List.getElem_cons_zero, k1, List.drop_succ_cons, List.drop_zero, List.take_succ_cons, List.take_zero, List.getElem?_cons_succ, List.getElem?_cons_zero] at this
    exact this
  have z0 : Lite Try.prog 24 x0.1 := Lite.struct hz Try.underlying27 0 _ _ rfl rfl
  have z1 : Lite Try.prog 25 x1.1 := Lite.struct hz Try.underlying27 1 _ _ rfl rfl
  obtain ⟨ys, m', _, hy', _, hyl, hf'⟩ := DataW.trod_struct Try.underlying24 t0
  obtain ⟨y0, rfl⟩ : ∃ y0, ys = [y0] := by
    match hq : ys, hyl with
    | [y0], _ => exact ⟨y0, rfl⟩
  rw [hy'] at z0
  have t2 : DataW.trod enc Try.prog w base (fun _ => true) held m' 22 [c0] = some y0 := by
    have := hf' 0 _ rfl
    simp only [List.getElem_toArray, List.getElem_cons_zero, k2, List.drop_zero, List.take_succ_cons, List.take_zero, List.getElem?_cons_zero] at this
    exact this
  have z2 : Lite Try.prog 22 y0.1 := Lite.struct z0 Try.underlying24 0 _ _ rfl rfl
  obtain ⟨f, l, cap, X, rfl, hl, hX⟩ := words_cells t2 z2
  obtain ⟨g, n, d, A, rfl, hn, hA⟩ := acts_cells t1 z1
  refine ⟨f, g, l, cap, n, d, X, A, ?_, hl, hn, hX, hA⟩
  cases v with
  | agg cs =>
    obtain ⟨cs⟩ := cs
    simp only [Value.cells] at hcs
    rw [hcs]
  | _ => simp [Value.cells] at hcs
end
end Go.Proofs.Ytpnkhijbfnnggaa
