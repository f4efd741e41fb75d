/- Rows of structs, whatever the struct: in memory, and in a block of the call's own: made, appended to, read. -/
import Derived.Test.YtbhnjaajkolklaaGreatSt
import Derived.Test.YtbhnjaajkolklaaGreatSq
import Derived.Laws.AppendOwn
import Derived.Laws.AppendOwnNone
import Derived.Laws.OwnMore
import Derived.Deep.AppendLies
set_option linter.all false
namespace Go.Proofs.YtbhnjaajkolklaaGreat
open Go.ChangeShapes Go.WideShapes Go.ChangeAt Go.RowKit Go.Deep

/-- What is to be known of a struct: its slices' type, its own, its cells, its size, its nought. -/
structure RowK (Q : Type) where
  ts : TypeId
  t : TypeId
  N : Nat
  B : Nat
  z : Value
  V : Q → Array Value
  pos : 0 < N
  small : B ≤ 1000
  size : ∀ q, (V q).size = N
  one : ∀ q, ∀ v ∈ (V q).toList, v.oneCell' = true
  under : Tryz.prog.underlying ts = some (.slice t)
  info : (Tryz.prog.info? t).map (fun i => (i.zero, i.size, i.bytes)) = some (some z, N, B)
  zs : z.cells.size = N
section
variable {Q : Type} (K : RowK Q)
def rcells : List Q → List Value
  | [] => []
  | x :: L => (K.V x).toList ++ rcells L
theorem rcells_append (L M : List Q) : rcells K (L ++ M) = rcells K L ++ rcells K M := by
  induction L with
  | nil => rfl
  | cons x L ih => simp only [List.cons_append, rcells, ih, List.append_assoc]
theorem rcells_length (L : List Q) : (rcells K L).length = L.length * K.N := by
  induction L with
  | nil => simp [rcells]
  | cons x L ih => simp only [rcells, List.length_append, Array.length_toList, K.size, List.length_cons, ih, Nat.add_mul]; omega
theorem rcells_one (L : List Q) : ∀ v ∈ rcells K L, v.oneCell' = true := by
  induction L with
  | nil => intro v hv; cases hv
  | cons x L ih =>
    intro v hv
    rcases List.mem_append.1 hv with hv | hv
    · exact K.one x v hv
    · exact ih v hv
theorem rcells_get (L : List Q) (j : Nat) (q : Q) (hj : L[j]? = some q) (i : Nat) (hi : i < K.N) : (rcells K L)[j * K.N + i]? = (K.V q)[i]? := by
  induction L generalizing j with
  | nil => cases hj
  | cons x L ih =>
    cases j with
    | zero =>
      simp only [List.getElem?_cons_zero, Option.some.injEq] at hj
      subst hj
      rw [Nat.zero_mul, Nat.zero_add]
      show ((K.V x).toList ++ _)[i]? = _
      rw [List.getElem?_append_left (by rw [Array.length_toList, K.size]; exact hi), Array.getElem?_toList]
    | succ j =>
      have h2 := ih j (by simpa using hj)
      show ((K.V x).toList ++ _)[(j + 1) * K.N + i]? = _
      rw [List.getElem?_append_right (by rw [Array.length_toList, K.size, Nat.add_mul]; omega), Array.length_toList, K.size, ← h2]
      congr 1
      rw [Nat.add_mul]
      omega
/-- A slice of structs, read as a list. -/
def RowsAt (w : World) (f : Option Addr) (L : List Q) : Prop := ∀ (j : Nat) (q : Q), L[j]? = some q → ∃ b o, f = some ⟨b, o, none⟩ ∧ RowAt w b (o + j * K.N) K.N (K.V q)
/-- A slice of structs in a block of the call's own. -/
def OwnR (w : World) (base : Nat) (v : Value) (L : List Q) : Prop := w.ownsRow base K.t K.N v L.length (rcells K L)
end
theorem RowAt.alloc {W : World} {b o N : Nat} {cs : Array Value} (h : RowAt W b o N cs) (x : Obj) : RowAt (W.alloc x) b o N cs := h.below (bel_alloc (Below.refl _ _) x)
theorem RowAt.drew {W : World} {b o N : Nat} {cs : Array Value} (h : RowAt W b o N cs) : RowAt W.drew b o N cs := h.below (Below.drew (Below.refl _ _))
theorem RowAt.row {W : World} {b o N g : Nat} {cs ds : Array Value} (h : RowAt W b o N cs) (hne : b ≠ g) : RowAt (W.setRow g ds) b o N cs :=
  ⟨by have := setRow_other W g b ds hne; have h1 := h.lt; rw [Array.getElem?_eq_getElem h1] at this; exact (Array.getElem?_eq_some_iff.1 this).1, fun j hj => (cell_setRow_other W g ds ⟨b, o + j, none⟩ hne).trans (h.c j hj)⟩
theorem RowAt.other {W : World} {b o N : Nat} {cs : Array Value} (h : RowAt W b o N cs) (p : Addr) (v : Value) (hne : b ≠ p.block) : RowAt (W.setCell p v) b o N cs := by
  have h0 := Below.heap_setCell W p v b hne
  refine ⟨by have h1 := h.lt; rw [Array.getElem?_eq_getElem h1] at h0; exact (Array.getElem?_eq_some_iff.1 h0).1, fun j hj => (World.cell?_of_block (a := ⟨b, o + j, none⟩) h0).trans (h.c j hj)⟩
theorem RowAt.under {B : Nat} {W w : World} {b o N : Nat} {cs : Array Value} (h : RowAt W b o N cs) (hb : Below B W w) (hB : b < B) : RowAt w b o N cs :=
  ⟨Nat.lt_of_lt_of_le h.lt hb.size, fun j hj => (World.cell?_of_block (a := ⟨b, o + j, none⟩) (hb.block b hB)).trans (h.c j hj)⟩
section
variable {Q : Type} {K : RowK Q}
theorem RowsAt.below {W w : World} {f : Option Addr} {L : List Q} (h : RowsAt K W f L) (hb : Below W.heap.size W w) : RowsAt K w f L := by
  intro j q hj
  obtain ⟨b, o, hf, hr⟩ := h j q hj
  exact ⟨b, o, hf, hr.below hb⟩
theorem RowsAt.nil (w : World) (f : Option Addr) : RowsAt K w f [] := fun j q hj => by simp at hj
theorem RowsAt.of_seq {W : World} {f : Option Addr} {l : Nat} {q : Nat → Q} {Ok : World → Q → Prop} (h : SeqAt K.N K.V Ok W f l q) : RowsAt K W f ((List.range l).map q) := by
  intro j x hj
  rw [List.getElem?_map] at hj
  by_cases hl : j < l
  · rw [List.getElem?_range hl] at hj
    simp only [Option.map_some, Option.some.injEq] at hj
    subst hj
    obtain ⟨b, o, hf, hr, _⟩ := h j hl
    exact ⟨b, o, hf, hr⟩
  · rw [List.getElem?_eq_none (by simpa using hl)] at hj
    simp at hj
theorem OwnR.nil (w : World) (base : Nat) : OwnR K w base (.slice none 0 0) [] := World.ownsRow_nil w base K.t K.N
theorem OwnR.below {w w' : World} {base : Nat} {v : Value} {L : List Q} (h : OwnR K w base v L) (hb : Below w.heap.size w w') : OwnR K w' base v L := by
  refine ⟨h.1, ?_⟩
  rcases h.2 with hn | ⟨g, cap, cur, rfl, hbg, hgg, rest⟩
  · exact .inl hn
  · exact .inr ⟨g, cap, cur, rfl, hbg, (hb.block g (Array.getElem?_eq_some_iff.1 hgg).1).trans hgg, rest⟩
theorem OwnR.under {B : Nat} {w w' : World} {base : Nat} {v : Value} {L : List Q} (h : OwnR K w base v L) (hb : Below B w w') (hlt : ∀ k, v.ownBlock = some k → k < B) : OwnR K w' base v L := by
  refine ⟨h.1, ?_⟩
  rcases h.2 with hn | ⟨g, cap, cur, rfl, hbg, hgg, rest⟩
  · exact .inl hn
  · exact .inr ⟨g, cap, cur, rfl, hbg, (hb.block g (hlt g rfl)).trans hgg, rest⟩
theorem OwnR.mono {w : World} {base base' : Nat} {v : Value} {L : List Q} (h : OwnR K w base v L) (hb : base' ≤ base) : OwnR K w base' v L := by
  refine ⟨h.1, ?_⟩
  rcases h.2 with hn | ⟨g, cap, cur, rfl, hbg, rest⟩
  · exact .inl hn
  · exact .inr ⟨g, cap, cur, rfl, by omega, rest⟩
theorem OwnR.blk {w : World} {base : Nat} {v : Value} {L : List Q} (h : OwnR K w base v L) : ∀ k, v.ownBlock = some k → base ≤ k := fun k hk => (World.ownsRow.lt h k hk).1
theorem OwnR.blt {w : World} {base : Nat} {v : Value} {L : List Q} (h : OwnR K w base v L) : ∀ k, v.ownBlock = some k → k < w.heap.size := fun k hk => (World.ownsRow.lt h k hk).2
theorem OwnR.otherN {w : World} {base : Nat} {v : Value} {L : List Q} (h : OwnR K w base v L) (p : Addr) (y : Value) (hb : v.ownBlock ≠ some p.block) : OwnR K (w.setCell p y) base v L := by
  refine ⟨h.1, ?_⟩
  rcases h.2 with hn | ⟨g, cap, cur, rfl, hbg, hgg, rest⟩
  · exact .inl hn
  · refine .inr ⟨g, cap, cur, rfl, hbg, (Below.heap_setCell w p y g ?_).trans hgg, rest⟩
    rintro rfl
    exact hb rfl
theorem OwnR.other {w : World} {base : Nat} {v : Value} {L : List Q} (h : OwnR K w base v L) (p : Addr) (y : Value) (hb : p.block < base) : OwnR K (w.setCell p y) base v L :=
  h.otherN p y (fun he => by have := h.blk _ he; omega)
theorem OwnR.drew {w : World} {base : Nat} {v : Value} {L : List Q} (h : OwnR K w base v L) : OwnR K w.drew base v L := h.below (Below.drew (Below.refl _ _))
theorem OwnR.alloc {w : World} {base : Nat} {v : Value} {L : List Q} (h : OwnR K w base v L) (o : Obj) : OwnR K (w.alloc o) base v L := h.below (bel_alloc (Below.refl _ _) o)
theorem OwnR.form {w : World} {base : Nat} {v : Value} {L : List Q} (h : OwnR K w base v L) : ∃ f c, v = .slice f L.length c ∧ RowsAt K w f L ∧ (f = none → c = 0) := by
  rcases h.2 with ⟨rfl, hz⟩ | ⟨g, cap, cur, rfl, hbg, hgg, hrest⟩
  · have hl : L.length = 0 := hz
    have hL : L = [] := List.eq_nil_of_length_eq_zero hl
    subst hL
    exact ⟨none, 0, rfl, RowsAt.nil _ _, fun _ => rfl⟩
  · refine ⟨_, cap, rfl, fun j q hj => ⟨g, 0, rfl, (Array.getElem?_eq_some_iff.1 hgg).1, fun i hi => ?_⟩, by simp⟩
    have hjl : j < L.length := (List.getElem?_eq_some_iff.1 hj).1
    have hlt : j * K.N + i < L.length * K.N := by
      have : (j + 1) * K.N ≤ L.length * K.N := Nat.mul_le_mul_right _ hjl
      rw [Nat.add_mul] at this
      omega
    have := World.ownsRow.cellAt h (j * K.N + i) hlt
    rw [rcells_get K L j q hj i hi] at this
    rw [Nat.zero_add]
    exact this
theorem OwnR.rows {w : World} {base : Nat} {f : Option Addr} {n c : Nat} {L : List Q} (h : OwnR K w base (.slice f n c) L) : n = L.length ∧ RowsAt K w f L := by
  obtain ⟨f', c', hv, hw, _⟩ := h.form
  simp at hv
  obtain ⟨rfl, rfl, rfl⟩ := hv
  exact ⟨rfl, hw⟩
theorem OwnR.made (w : World) (base : Nat) (L : List Q) (cs : Array Value) (n : Nat) (hb : base ≤ w.heap.size) (hn : n = L.length) (hl : L.length ≤ 1000000) (hc : cs.toList = rcells K L) : OwnR K (w.alloc (.cells cs K.t)) base (.slice (some ⟨w.heap.size, 0, none⟩) n n) L := by
  subst hn
  have h1 : cs.size = L.length * K.N := by rw [← Array.length_toList, hc, rcells_length]
  refine ⟨rcells_length K L, .inr ⟨w.heap.size, L.length, cs, rfl, hb, heap_alloc_new w _, Nat.le_refl _, by unfold maxLen; omega, h1, ?_⟩⟩
  rw [hc, List.take_of_length_le (by rw [rcells_length]; omega)]

end
section
variable {H : Type} {enc : TypeId × Value → H} {w : World} {base : Nat} {held : Bool}
/-- A slice of structs of an argument, opened; one without memory has no room. -/
theorem seq_nil {t e : TypeId} {N B n : Nat} {c : Value} {y : DataW H × List MemPlace} {Q : Type} (V : Q → Array Value) (Ok : World → Q → Prop) (q0 : Q) (ht : Tryz.prog.underlying t = some (.slice e)) (hC : Tryz.prog.cellsOf e = N) (hN : 0 < N) (hB : Tryz.prog.bytesOf e = B) (hB0 : 1 ≤ B)
    (hcell : ∀ {n : Nat} {cs : List Value} {y : DataW H × List MemPlace}, cs.length = N → DataW.trod enc Tryz.prog w base (fun _ => true) held n e cs = some y → Lite Tryz.prog e y.1 → ∃ q, cs = (V q).toList ∧ Ok w q)
    (h : DataW.trod enc Tryz.prog w base (fun _ => true) held n t [c] = some y) (hz : Lite Tryz.prog t y.1) :
    ∃ (f : Option Addr) (l cap : Nat) (q : Nat → Q), c = .slice f l cap ∧ l ≤ cap ∧ l * B ≤ reachBytes ∧ SeqAt N V Ok w f l q ∧ (f = none → cap = 0) := by
  obtain ⟨f, l, cap, q, rfl, h1, h2, h3⟩ := seq_of V Ok q0 ht hC hN hB hB0 hcell h hz
  refine ⟨f, l, cap, q, rfl, h1, h2, h3, ?_⟩
  rintro rfl
  rcases open_slice ht h with ⟨hcs, _⟩ | ⟨a, len, cap', m, n, D, Pl, hcs, _⟩
  · simp at hcs
    exact hcs.2
  · simp at hcs
end
end Go.Proofs.YtbhnjaajkolklaaGreat
