/- Slices of words: read, owned, appended to, copied. -/
import Derived.Test.YtbhnjaajkolklaaGreatMemA
import Derived.Laws.AppendOwn
import Derived.Laws.AppendOwnNone
import Derived.Laws.OwnMore
import Derived.Laws.CopyOwn
import Derived.Deep.AppendLies
import Derived.LoopTactic
set_option linter.all false
namespace Go.Proofs.YtbhnjaajkolklaaGreat
open Go.ChangeShapes Go.WideShapes Go.ChangeAt Go.RowKit Go.Deep

/-- The cells of words. -/
def wcells (X : Nat → BitVec 64) (n : Nat) : List Value := (List.range n).map fun j => .int .u64 (u (X j))
theorem wcells_length (X : Nat → BitVec 64) (n : Nat) : (wcells X n).length = n := by simp [wcells]
theorem wcells_get (X : Nat → BitVec 64) (n j : Nat) (h : j < n) : (wcells X n)[j]? = some (.int .u64 (u (X j))) := by simp [wcells, h]
theorem wcells_none (X : Nat → BitVec 64) (n j : Nat) (h : n ≤ j) : (wcells X n)[j]? = none := by simp [wcells, h]
theorem wcells_one (X : Nat → BitVec 64) (n : Nat) : ∀ v ∈ wcells X n, v.oneCell' = true := by
  intro v hv
  simp only [wcells, List.mem_map] at hv
  obtain ⟨t, _, rfl⟩ := hv
  rfl
theorem wcells_succ (X : Nat → BitVec 64) (n : Nat) : wcells X (n + 1) = wcells X n ++ [.int .u64 (u (X n))] := by simp [wcells, List.range_succ]
theorem wcells_congr {X Y : Nat → BitVec 64} {n : Nat} (h : ∀ j, j < n → X j = Y j) : wcells X n = wcells Y n := by
  apply List.ext_getElem?
  intro j
  by_cases hj : j < n
  · rw [wcells_get X n j hj, wcells_get Y n j hj, h j hj]
  · rw [wcells_none X n j (by omega), wcells_none Y n j (by omega)]
/-- One word is another. -/
def upd (X : Nat → BitVec 64) (j : Nat) (y : BitVec 64) : Nat → BitVec 64 := fun i => if i = j then y else X i
theorem wcells_set (X : Nat → BitVec 64) (n j : Nat) (y : BitVec 64) : (wcells X n).set j (.int .u64 (u y)) = wcells (upd X j y) n := by
  apply List.ext_getElem?
  intro i
  rw [List.getElem?_set, wcells_length]
  by_cases hi : i < n
  · rw [wcells_get X n i hi, wcells_get (upd X j y) n i hi]
    unfold upd
    by_cases hj : j = i
    · subst hj; simp [hi]
    · rw [if_neg hj, if_neg (by omega)]
  · rw [wcells_none X n i (by omega), wcells_none (upd X j y) n i (by omega)]
    by_cases hj : j = i
    · subst hj; simp [hi]
    · simp [hj]

theorem upd_self (X : Nat → BitVec 64) (j : Nat) : upd X j (X j) = X := by
  funext i
  unfold upd
  split
  · rename_i e; rw [e]
  · rfl
theorem cell_new (w : World) (cs : Array Value) (t : TypeId) (j : Nat) : (w.alloc (.cells cs t)).cell? ⟨w.heap.size, j, none⟩ = cs[j]? := by
  rw [cell_of_row _ w.heap.size j cs t (0, 0) (heap_alloc_new w _)]

/-- A cell that may be read and written. -/
structure Loc (w : World) (b o : Nat) (x : Value) : Prop where
  cell : w.cell? ⟨b, o, none⟩ = some x
  free : w.frozen? ⟨b, o, none⟩ = false
theorem Loc.lt {w : World} {b o : Nat} {x : Value} (h : Loc w b o x) : b < w.heap.size := cell_block h.cell
theorem Loc.below {w w' : World} {b o : Nat} {x : Value} (h : Loc w b o x) (hb : Below w.heap.size w w') : Loc w' b o x :=
  ⟨keepc hb h.cell, (hb.frozen (p := ⟨b, o, none⟩) h.lt).trans h.free⟩
theorem Loc.under {B : Nat} {w w' : World} {b o : Nat} {x : Value} (h : Loc w b o x) (hb : Below B w w') (hB : b < B) : Loc w' b o x :=
  ⟨(hb.cell (p := ⟨b, o, none⟩) hB).trans h.cell, (hb.frozen (p := ⟨b, o, none⟩) hB).trans h.free⟩
theorem Loc.alloc {w : World} {b o : Nat} {x : Value} (h : Loc w b o x) (ob : Obj) : Loc (w.alloc ob) b o x := h.below (bel_alloc (Below.refl _ _) ob)
theorem Loc.new (w : World) (cs : Array Value) (t : TypeId) (b j : Nat) (x : Value) (hb : b = w.heap.size) (hx : cs[j]? = some x) : Loc (w.alloc (.cells cs t)) b j x := by
  subst hb
  exact ⟨(cell_new w cs t j).trans hx, World.frozen?_alloc_new w cs t j⟩
theorem Loc.set {w : World} {b o : Nat} {x : Value} (h : Loc w b o x) (b' o' : Nat) (y : Value) (hne : b ≠ b') : Loc (w.setCell ⟨b', o', none⟩ y) b o x :=
  ⟨(World.cell?_of_block (Below.heap_setCell w ⟨b', o', none⟩ y b hne)).trans h.cell, (World.frozen?_of_block (Below.heap_setCell w ⟨b', o', none⟩ y b hne)).trans h.free⟩
theorem Loc.drewN {w : World} {b o : Nat} {x : Value} (h : Loc w b o x) (m : Nat) : Loc (w.drewN m) b o x := ⟨h.cell, h.free⟩
theorem Loc.put {w : World} {b o : Nat} {x : Value} (h : Loc w b o x) (y : Value) : Loc (w.setCell ⟨b, o, none⟩ y) b o y :=
  ⟨World.cell?_setCell_same _ _ _ h.cell, by rw [World.frozen?_setCell]; exact h.free⟩
theorem cell_keep {w : World} {b o : Nat} {x : Value} (h : w.cell? ⟨b, o, none⟩ = some x) (ob : Obj) : (w.alloc ob).cell? ⟨b, o, none⟩ = some x := keepc (bel_alloc (Below.refl _ _) ob) h
theorem cell_drew {w : World} {b o : Nat} {x : Value} (h : w.cell? ⟨b, o, none⟩ = some x) : w.drew.cell? ⟨b, o, none⟩ = some x := h
theorem frozen_keep {w : World} {b o : Nat} (hb : b < w.heap.size) (h : w.frozen? ⟨b, o, none⟩ = false) (ob : Obj) : (w.alloc ob).frozen? ⟨b, o, none⟩ = false :=
  ((bel_alloc (Below.refl w.heap.size w) ob).frozen (p := ⟨b, o, none⟩) hb).trans h
theorem frozen_drew {w : World} {b o : Nat} (h : w.frozen? ⟨b, o, none⟩ = false) : w.drew.frozen? ⟨b, o, none⟩ = false := h
/-- A cell that is there and may be written, whatever it holds. -/
def Open1 (w : World) (b o : Nat) : Prop := ∃ x, Loc w b o x
theorem Open1.alloc {w : World} {b o : Nat} (h : Open1 w b o) (ob : Obj) : Open1 (w.alloc ob) b o := by
  obtain ⟨x, hx⟩ := h
  exact ⟨x, hx.alloc ob⟩
theorem Open1.drew {w : World} {b o : Nat} (h : Open1 w b o) : Open1 w.drew b o := by
  obtain ⟨x, hx⟩ := h
  exact ⟨x, hx.cell, hx.free⟩
theorem cell_set {w : World} {b o b' o' : Nat} {x : Value} (y : Value) (hne : b ≠ b') (h : w.cell? ⟨b, o, none⟩ = some x) : (w.setCell ⟨b', o', none⟩ y).cell? ⟨b, o, none⟩ = some x :=
  (World.cell?_of_block (Below.heap_setCell w ⟨b', o', none⟩ y b hne)).trans h
theorem Loc.setCells {b o : Nat} {x : Value} (g : Nat) (hne : b ≠ g) : ∀ (vs : List Value) (o' : Nat) (w : World), Loc w b o x → Loc (w.setCells g o' vs) b o x
  | [], _, _, h => h
  | v :: r, o', _, h => Loc.setCells g hne r (o' + 1) _ (h.set g o' v hne)

theorem Loc.same {w w' : World} {b o : Nat} {x : Value} (h : Loc w b o x) (he : w'.heap[b]? = w.heap[b]?) : Loc w' b o x :=
  ⟨(World.cell?_of_block (a := ⟨b, o, none⟩) he).trans h.cell, (World.frozen?_of_block (a := ⟨b, o, none⟩) he).trans h.free⟩
/-- A slice of one-cell elements. -/
def CellsAt (w : World) (f : Option Addr) (l : Nat) (C : Nat → Value) : Prop := ∀ j, j < l → ∃ b o, f = some ⟨b, o, none⟩ ∧ w.cell? ⟨b, o + j, none⟩ = some (C j)
abbrev WordsAt (w : World) (f : Option Addr) (l : Nat) (X : Nat → BitVec 64) : Prop := CellsAt w f l fun j => .int .u64 (u (X j))
abbrev NumsAt (w : World) (f : Option Addr) (l : Nat) (N : Nat → Int) : Prop := CellsAt w f l fun j => .int .i64 (N j)
theorem CellsAt.below {w w' : World} {f : Option Addr} {l : Nat} {C : Nat → Value} (h : CellsAt w f l C) (hb : Below w.heap.size w w') : CellsAt w' f l C := by
  intro j hj
  obtain ⟨b, o, hf, hc⟩ := h j hj
  exact ⟨b, o, hf, keepc hb hc⟩
theorem CellsAt.pos {w : World} {f : Option Addr} {l : Nat} {C : Nat → Value} (h : CellsAt w f l C) (h0 : 0 < l) : ∃ b o, f = some ⟨b, o, none⟩ ∧ b < w.heap.size ∧ ∀ j, j < l → w.cell? ⟨b, o + j, none⟩ = some (C j) := by
  obtain ⟨b, o, hf, hc⟩ := h 0 h0
  refine ⟨b, o, hf, cell_block hc, fun j hj => ?_⟩
  obtain ⟨b', o', hf', hc'⟩ := h j hj
  rw [hf] at hf'
  simp at hf'
  obtain ⟨rfl, rfl⟩ := hf'
  exact hc'
theorem CellsAt.empty (w : World) (f : Option Addr) (C : Nat → Value) : CellsAt w f 0 C := fun j hj => absurd hj (by omega)
/-- A slice of words in a block of the call's own. -/
def OwnW (w : World) (base : Nat) (v : Value) (n : Nat) (X : Nat → BitVec 64) : Prop := w.ownsRow base 75 1 v n (wcells X n)
theorem OwnW.nil (w : World) (base : Nat) (X : Nat → BitVec 64) : OwnW w base (.slice none 0 0) 0 X := World.ownsRow_nil w base 75 1
theorem OwnW.below {w w' : World} {base : Nat} {v : Value} {n : Nat} {X : Nat → BitVec 64} (h : OwnW w base v n X) (hb : Below w.heap.size w w') : OwnW w' base v n X := by
  refine ⟨h.1, ?_⟩
  rcases h.2 with hn | ⟨g, cap, cur, rfl, hbg, hgg, rest⟩
  · exact .inl hn
  · exact .inr ⟨g, cap, cur, rfl, hbg, (hb.block g (Array.getElem?_eq_some_iff.1 hgg).1).trans hgg, rest⟩
theorem OwnW.mono {w : World} {base base' : Nat} {v : Value} {n : Nat} {X : Nat → BitVec 64} (h : OwnW w base v n X) (hb : base' ≤ base) : OwnW w base' v n X := by
  refine ⟨h.1, ?_⟩
  rcases h.2 with hn | ⟨g, cap, cur, rfl, hbg, rest⟩
  · exact .inl hn
  · exact .inr ⟨g, cap, cur, rfl, by omega, rest⟩
theorem OwnW.form {w : World} {base : Nat} {v : Value} {n : Nat} {X : Nat → BitVec 64} (h : OwnW w base v n X) : ∃ f c, v = .slice f n c ∧ WordsAt w f n X := by
  rcases h.2 with ⟨rfl, rfl⟩ | ⟨g, cap, cur, rfl, hbg, hgg, _⟩
  · exact ⟨none, 0, rfl, CellsAt.empty _ _ _⟩
  · refine ⟨_, cap, rfl, fun j hj => ⟨g, 0, rfl, ?_⟩⟩
    have := World.ownsRow.cellAt h j (by omega)
    rw [wcells_get X n j hj] at this
    rw [Nat.zero_add]
    exact this
theorem OwnW.words {w : World} {base : Nat} {f : Option Addr} {n c : Nat} {X : Nat → BitVec 64} (h : OwnW w base (.slice f n c) n X) : WordsAt w f n X := by
  obtain ⟨f', c', hv, hw⟩ := h.form
  simp at hv
  obtain ⟨rfl, rfl⟩ := hv
  exact hw
theorem OwnW.pos {w : World} {base : Nat} {v : Value} {n : Nat} {X : Nat → BitVec 64} (h : OwnW w base v n X) (h0 : 0 < n) : ∃ g c, v = .slice (some ⟨g, 0, none⟩) n c ∧ base ≤ g ∧ g < w.heap.size ∧ n ≤ c ∧ ∀ j, j < n → w.cell? ⟨g, j, none⟩ = some (.int .u64 (u (X j))) := by
  rcases h.2 with ⟨rfl, rfl⟩ | ⟨g, cap, cur, rfl, hbg, hgg, hnc, _⟩
  · omega
  · refine ⟨g, cap, rfl, hbg, (Array.getElem?_eq_some_iff.1 hgg).1, hnc, fun j hj => ?_⟩
    have := World.ownsRow.cellAt h j (by omega)
    rwa [wcells_get X n j hj] at this
theorem OwnW.frozen {w : World} {base g n c : Nat} {X : Nat → BitVec 64} (h : OwnW w base (.slice (some ⟨g, 0, none⟩) n c) n X) (j : Nat) : w.frozen? ⟨g, j, none⟩ = false := World.ownsRow.frozenAt h j
theorem OwnW.stored {w : World} {base g n c : Nat} {X : Nat → BitVec 64} (h : OwnW w base (.slice (some ⟨g, 0, none⟩) n c) n X) (j : Nat) (y : BitVec 64) : OwnW (w.setCell ⟨g, j, none⟩ (.int .u64 (u y))) base (.slice (some ⟨g, 0, none⟩) n c) n (upd X j y) := by
  have := (World.ownsRow.stored h j (.int .u64 (u y))).1
  unfold OwnW
  rw [← wcells_set]
  exact this
theorem OwnW.other {w : World} {base : Nat} {v : Value} {n : Nat} {X : Nat → BitVec 64} (h : OwnW w base v n X) (b o : Nat) (y : Value) (hb : b < base) : OwnW (w.setCell ⟨b, o, none⟩ y) base v n X := by
  refine ⟨h.1, ?_⟩
  rcases h.2 with hn | ⟨g, cap, cur, rfl, hbg, hgg, rest⟩
  · exact .inl hn
  · exact .inr ⟨g, cap, cur, rfl, hbg, (Below.heap_setCell w ⟨b, o, none⟩ y g (by simp only; omega)).trans hgg, rest⟩
theorem OwnW.apart {w : World} {base g n c : Nat} {X : Nat → BitVec 64} (h : OwnW w base (.slice (some ⟨g, 0, none⟩) n c) n X) (b o : Nat) (y : Value) (hb : g ≠ b) : OwnW (w.setCell ⟨b, o, none⟩ y) base (.slice (some ⟨g, 0, none⟩) n c) n X := by
  refine ⟨h.1, ?_⟩
  rcases h.2 with hn | ⟨g3, cap, cur, hv, hb3, hgg, rest⟩
  · exact .inl hn
  · simp only [Value.slice.injEq, Option.some.injEq, Addr.mk.injEq, and_true, true_and] at hv
    obtain ⟨rfl, rfl⟩ := hv
    exact .inr ⟨g, c, cur, rfl, hb3, (Below.heap_setCell w ⟨b, o, none⟩ y g (by simp only; omega)).trans hgg, rest⟩
theorem OwnW.drew {w : World} {base : Nat} {v : Value} {n : Nat} {X : Nat → BitVec 64} (h : OwnW w base v n X) : OwnW w.drew base v n X := h.below (Below.drew (Below.refl _ _))

theorem OwnW.lt {w : World} {base g n c : Nat} {X : Nat → BitVec 64} (h : OwnW w base (.slice (some ⟨g, 0, none⟩) n c) n X) : g < w.heap.size := (World.ownsRow.lt h g rfl).2
theorem OwnW.blk {w : World} {base : Nat} {v : Value} {n : Nat} {X : Nat → BitVec 64} (h : OwnW w base v n X) : ∀ k, v.ownBlock = some k → base ≤ k := fun k hk => (World.ownsRow.lt h k hk).1

theorem infoW : (Tryz.prog.info? 75).map (fun i => (i.zero, i.size, i.bytes)) = some (some (.int .u64 0), 1, 8) := by kernel_rfl

/-- 'append(s, x)' of one word onto a slice of the call's own. -/
theorem wpList_pushW {w : World} {ops : Array Oper} {rest : List Oper} {o : Oper} {a : Act} {Q : Exit → Act → World → Prop} (hgd : o.guard = none) (s x : Operand)
    (ho : o.op = .call { callee := .builtin .append, args := #[s, x], argTypes := #[22, 22] })
    (base : Nat) (v : Value) (k : Nat) (X : Nat → BitVec 64) (hs : a.eval s = v) (hown : OwnW w base v k X)
    (b c : Nat) (y : BitVec 64) (hx : a.eval x = .slice (some ⟨b, 0, none⟩) 1 c) (hy : w.cell? ⟨b, 0, none⟩ = some (.int .u64 (u y))) (hk : k ≤ 100000) (hbase : base ≤ w.heap.size)
    (h : ∀ f' c' w', OwnW w' base (.slice f' (k + 1) c') (k + 1) (upd X k y) → Below base w w' → wpList Tryz.prog ops Q rest (a.put o.dst (.slice f' (k + 1) c')) w') : wpList Tryz.prog ops Q (o :: rest) a w := by
  obtain ⟨i0, hi, hz0, hz1, hz2⟩ := info_parts infoW
  refine wpList_append_own _ hgd s x 22 ho base 75 i0 _ 1 8 Tryz.underlying22 hi hz0 hz1 hz2 rfl (by decide) _ k (wcells X k) hs hown _ 1 c [.int .u64 (u y)] hx rfl ?_ (by simp; rfl)
    (by unfold maxLen; omega) (by omega) hbase ?_
  · intro t v hv
    match t, hv with
    | 0, hv => simp at hv; subst hv; exact hy
    | t + 1, hv => simp at hv
  · intro v' w' hown' hgrow _
    have hO : OwnW w' base v' (k + 1) (upd X k y) := by
      unfold OwnW
      rw [wcells_succ, wcells_congr (Y := X) (fun j hj => by unfold upd; rw [if_neg (by omega)])]
      unfold upd
      rw [if_pos rfl]
      exact hown'
    have hB : Below base w w' := (Below.refl base w).grown hgrow hbase hown.blk
    obtain ⟨f', c', rfl, _⟩ := hO.form
    exact h _ _ _ hO hB

/-- 'append(empty, x...)' is a copy. -/
theorem wpList_cloneW {w : World} {ops : Array Oper} {rest : List Oper} {o : Oper} {a : Act} {Q : Exit → Act → World → Prop} (hgd : o.guard = none) (s x : Operand)
    (ho : o.op = .call { callee := .builtin .append, args := #[s, x], argTypes := #[22, 22] })
    (base g0 c0 : Nat) (hs : a.eval s = .slice (some ⟨g0, 0, none⟩) 0 c0) (hown : w.ownsRow base 75 1 (.slice (some ⟨g0, 0, none⟩) 0 c0) 0 [])
    (ad : Addr) (l c : Nat) (X : Nat → BitVec 64) (hx : a.eval x = .slice (some ad) l c) (hX : WordsAt w (some ad) l X) (hl : l ≤ 100000) (hbase : base ≤ w.heap.size)
    (h : ∀ f' c' w', OwnW w' base (.slice f' l c') l X → Below base w w' → wpList Tryz.prog ops Q rest (a.put o.dst (.slice f' l c')) w') : wpList Tryz.prog ops Q (o :: rest) a w := by
  obtain ⟨i0, hi, hz0, hz1, hz2⟩ := info_parts infoW
  refine wpList_append_own _ hgd s x 22 ho base 75 i0 _ 1 8 Tryz.underlying22 hi hz0 hz1 hz2 rfl (by decide) _ 0 [] hs hown ad l c (wcells X l) hx (by rw [wcells_length]; omega) ?_ (wcells_one X l)
    (by unfold maxLen; omega) (by omega) hbase ?_
  · intro t v hv
    have ht : t < l := by
      have := (List.getElem?_eq_some_iff.1 hv).1
      rwa [wcells_length] at this
    rw [wcells_get X l t ht] at hv
    obtain rfl := Option.some.inj hv
    obtain ⟨b, o, hf, hc⟩ := hX t ht
    obtain rfl := Option.some.inj hf
    rw [add_none]
    exact hc
  · intro v' w' hown' hgrow hiff
    simp only [Nat.zero_add, List.nil_append] at hown'
    have hO : OwnW w' base v' l X := hown'
    have hB : Below base w w' := (Below.refl base w).grown hgrow hbase (fun k hk => (hown.lt k hk).1)
    obtain ⟨f', c', rfl, _⟩ := hO.form
    exact h _ _ _ hO hB
end Go.Proofs.YtbhnjaajkolklaaGreat
