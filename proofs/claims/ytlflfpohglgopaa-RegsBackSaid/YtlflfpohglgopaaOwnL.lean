/- Rows of fields of the call's own: made, appended to, read. -/
import Derived.Test.YtlflfpohglgopaaDm
import Derived.Laws.AppendOwn
import Derived.Laws.AppendOwnNone
import Derived.Laws.OwnMore
import Derived.Deep.AppendLies
set_option linter.all false
namespace Go.Proofs.Ytlflfpohglgopaa
open Go.ChangeShapes Go.WideShapes Go.ChangeAt Go.RowKit Go.Deep

def cellsL : List Fld → List Value
  | [] => []
  | x :: L => .int .i64 x.a :: .int .i64 x.n :: .int .u64 (u x.v) :: cellsL L
theorem cellsL_append (L M : List Fld) : cellsL (L ++ M) = cellsL L ++ cellsL M := by
  induction L with
  | nil => rfl
  | cons x L ih => simp only [List.cons_append, cellsL, ih]
theorem cellsL_length (L : List Fld) : (cellsL L).length = L.length * 3 := by
  induction L with
  | nil => rfl
  | cons x L ih => simp only [cellsL, List.length_cons, ih]; omega
theorem cellsL_one (L : List Fld) : ∀ v ∈ cellsL L, v.oneCell' = true := by
  induction L with
  | nil => intro v hv; cases hv
  | cons x L ih =>
    intro v hv
    simp only [cellsL, List.mem_cons] at hv
    rcases hv with rfl | rfl | rfl | hv
    · rfl
    · rfl
    · rfl
    · exact ih v hv
theorem cellsL_get (L : List Fld) (j : Nat) (hj : j < L.length) : (cellsL L)[j * 3]? = some (.int .i64 (nth L j).a) ∧ (cellsL L)[j * 3 + 1]? = some (.int .i64 (nth L j).n) ∧ (cellsL L)[j * 3 + 2]? = some (.int .u64 (u (nth L j).v)) := by
  induction L generalizing j with
  | nil => cases hj
  | cons x L ih =>
    cases j with
    | zero => exact ⟨rfl, rfl, rfl⟩
    | succ j =>
      have := ih j (by simpa using hj)
      rw [show (j + 1) * 3 = j * 3 + 3 from by omega]
      exact this

theorem infoF : (Try.prog.info? 72).map (fun i => (i.zero, i.size, i.bytes)) = some (some (.agg #[.int .i64 0, .int .i64 0, .int .u64 0]), 3, 24) := by kernel_rfl

/-- A row of fields of the call's own. -/
def OwnL (w : World) (base : Nat) (v : Value) (L : List Fld) : Prop := w.ownsRow base 72 3 v L.length (cellsL L)

theorem OwnL.lt {w : World} {base g n c : Nat} {L : List Fld} (h : OwnL w base (.slice (some ⟨g, 0, none⟩) n c) L) : base ≤ g ∧ g < w.heap.size := World.ownsRow.lt h g rfl
theorem OwnL.blk {w : World} {base : Nat} {v : Value} {L : List Fld} (h : OwnL w base v L) : ∀ k, v.ownBlock = some k → base ≤ k := fun k hk => (World.ownsRow.lt h k hk).1
theorem OwnL.below {w w' : World} {base : Nat} {v : Value} {L : List Fld} (h : OwnL w base v L) (hb : Below w.heap.size w w') : OwnL w' base v L := by
  obtain ⟨h0, h1⟩ := h
  refine ⟨h0, ?_⟩
  rcases h1 with h1 | ⟨g, cap, cur, e, hg, hh, h2⟩
  · exact .inl h1
  · exact .inr ⟨g, cap, cur, e, hg, (hb.block g (Array.getElem?_eq_some_iff.1 hh).1).trans hh, h2⟩
theorem OwnL.base {w : World} {b b' : Nat} {v : Value} {L : List Fld} (h : OwnL w b v L) (hb : b' ≤ b) : OwnL w b' v L := by
  obtain ⟨h0, h1⟩ := h
  refine ⟨h0, ?_⟩
  rcases h1 with h1 | ⟨g, cap, cur, e, hg, hh, h2⟩
  · exact .inl h1
  · exact .inr ⟨g, cap, cur, e, by omega, hh, h2⟩
theorem OwnL.made (w : World) (base n : Nat) (L : List Fld) (cs : Array Value) (hb : base ≤ w.heap.size) (hn : L.length = n) (hl : n ≤ 100) (hc : cs.toList = cellsL L) : OwnL (w.alloc (.cells cs 72)) base (.slice (some ⟨w.heap.size, 0, none⟩) n n) L := by
  have hsz : cs.size = n * 3 := by rw [← Array.length_toList, hc, cellsL_length, hn]
  refine ⟨cellsL_length L, .inr ⟨w.heap.size, n, cs, by rw [hn], hb, ?_, by omega, by unfold maxLen; omega, hsz, ?_⟩⟩
  · exact heap_alloc_new w _
  · rw [hc, List.take_of_length_le (by rw [cellsL_length]; omega)]

def SmallL (L : List Fld) : Prop := ∀ x ∈ L, -100 ≤ x.a ∧ x.a ≤ 100 ∧ -100 ≤ x.n ∧ x.n ≤ 100
theorem OwnL.flds {w : World} {base g c : Nat} {L : List Fld} (h : OwnL w base (.slice (some ⟨g, 0, none⟩) L.length c) L) (hs : SmallL L) : FldsAt w (some ⟨g, 0, none⟩) L.length (nth L) := by
  intro j hj
  obtain ⟨h1, h2, h3⟩ := cellsL_get L j hj
  have hm : nth L j ∈ L := by rw [nth_get (List.getElem?_eq_getElem hj)]; exact List.getElem_mem hj
  obtain ⟨b1, b2, b3, b4⟩ := hs _ hm
  have e : ∀ t, 0 + j * 3 + t = j * 3 + t := fun t => by omega
  refine ⟨g, 0, rfl, h.lt.2, ?_, ?_, ?_, by omega, by omega, by omega, by omega⟩
  · rw [show 0 + j * 3 = j * 3 from by omega]; exact (World.ownsRow.cellAt h (j * 3) (by omega)).trans h1
  · rw [e]; exact (World.ownsRow.cellAt h (j * 3 + 1) (by omega)).trans h2
  · rw [e]; exact (World.ownsRow.cellAt h (j * 3 + 2) (by omega)).trans h3

/-- The cells of a row, wherever it lies. -/
theorem OwnL.news {w : World} {base g c : Nat} {L : List Fld} (h : OwnL w base (.slice (some ⟨g, 0, none⟩) L.length c) L) : ∀ j v, (cellsL L)[j]? = some v → w.cell? ((Addr.mk g 0 none).add j) = some v := by
  intro j v hv
  have hj : j < L.length * 3 := by
    have := (List.getElem?_eq_some_iff.1 hv).1
    rwa [cellsL_length] at this
  rw [add_none, Nat.zero_add]
  exact (World.ownsRow.cellAt h j (by omega)).trans hv

/-- 'append(s, x...)' in a region that draws its order: both rows are the call's own. -/
theorem step_appL {w : World} {ops : Array Oper} {o : Oper} {a : Act} {K : Act → World → Prop} {Q : Exit → Act → World → Prop} {E : Prop} (hgd : o.guard = none) (s x : Operand)
    (ho : o.op = .call { callee := .builtin .append, args := #[s, x], argTypes := #[74, 74] })
    (base g0 n0 c0 g1 n1 c1 : Nat) (L M : List Fld) (hs : a.eval s = .slice (some ⟨g0, 0, none⟩) n0 c0) (hx : a.eval x = .slice (some ⟨g1, 0, none⟩) n1 c1) (hn0 : L.length = n0) (hn1 : M.length = n1)
    (hL : OwnL w base (.slice (some ⟨g0, 0, none⟩) n0 c0) L) (hM : OwnL w base (.slice (some ⟨g1, 0, none⟩) n1 c1) M) (hm : 0 < n1) (hl : n0 + n1 ≤ 1000) (hbase : base ≤ w.heap.size)
    (h : ∀ g cap w', OwnL w' base (.slice (some ⟨g, 0, none⟩) (n0 + n1) cap) (L ++ M) → Below base w w' → (∀ b, b < w.heap.size → b ≠ g0 → w'.heap[b]? = w.heap[b]?) → K (a.put o.dst (.slice (some ⟨g, 0, none⟩) (n0 + n1) cap)) w') :
    if Region.wanted o (yielded ops a.tmps) = true then Oper.wp Try.prog o a w K Q else E := by
  subst hn0 hn1
  obtain ⟨i0, hi, hz0, hz1, hz2⟩ := info_parts infoF
  refine step_append_lies _ hgd s x 74 ho base 72 i0 _ 3 24 Try.underlying74 hi hz0 hz1 hz2 rfl (by decide) _ L.length (cellsL L) hs hL ⟨g1, 0, none⟩ M.length c1 (cellsL M) hx (cellsL_length M) hM.news (cellsL_one M) hm
    (by unfold maxLen; omega) (by omega) hbase _ rfl (fun g cap w' hown hgrow _ _ => ?_)
  refine h g cap w' ?_ ((Below.refl base w).grown hgrow hbase hL.blk) (fun b hb hne => hgrow.block b hb (fun e => hne (Option.some.inj e)))
  unfold OwnL
  rw [cellsL_append, List.length_append]
  exact hown

/-- The same, in a region whose order is set. -/
theorem wpList_appL {w : World} {ops : Array Oper} {rest : List Oper} {o : Oper} {a : Act} {Q : Exit → Act → World → Prop} (hgd : o.guard = none) (s x : Operand)
    (ho : o.op = .call { callee := .builtin .append, args := #[s, x], argTypes := #[74, 74] })
    (base g0 n0 c0 g1 n1 c1 : Nat) (L M : List Fld) (hs : a.eval s = .slice (some ⟨g0, 0, none⟩) n0 c0) (hx : a.eval x = .slice (some ⟨g1, 0, none⟩) n1 c1) (hn0 : L.length = n0) (hn1 : M.length = n1)
    (hL : OwnL w base (.slice (some ⟨g0, 0, none⟩) n0 c0) L) (hM : OwnL w base (.slice (some ⟨g1, 0, none⟩) n1 c1) M) (hm : 0 < n1) (hl : n0 + n1 ≤ 1000) (hbase : base ≤ w.heap.size)
    (h : ∀ g cap w', OwnL w' base (.slice (some ⟨g, 0, none⟩) (n0 + n1) cap) (L ++ M) → Below base w w' → wpList Try.prog ops Q rest (a.put o.dst (.slice (some ⟨g, 0, none⟩) (n0 + n1) cap)) w') : wpList Try.prog ops Q (o :: rest) a w := by
  subst hn0 hn1
  obtain ⟨i0, hi, hz0, hz1, hz2⟩ := info_parts infoF
  refine wpList_append_own _ hgd s x 74 ho base 72 i0 _ 3 24 Try.underlying74 hi hz0 hz1 hz2 rfl (by decide) _ L.length (cellsL L) hs hL ⟨g1, 0, none⟩ M.length c1 (cellsL M) hx (cellsL_length M) hM.news (cellsL_one M)
    (by unfold maxLen; omega) (by omega) hbase (fun v' w' hown hgrow hiff => ?_)
  rcases hown.2 with ⟨h0, h1⟩ | ⟨g, cap, cur, rfl, _⟩
  · omega
  · refine h g cap w' ?_ ((Below.refl base w).grown hgrow hbase hL.blk)
    unfold OwnL
    rw [cellsL_append, List.length_append]
    exact hown

/-- What a call that makes a row leaves. -/
def EndL (w : World) (L : List Fld) (e : Ending) (w' : World) : Prop :=
  ∃ g c, e = .returned (.slice (some ⟨g, 0, none⟩) L.length c) ∧ OwnL w' w.heap.size (.slice (some ⟨g, 0, none⟩) L.length c) L ∧ Below w.heap.size w w'
end Go.Proofs.Ytlflfpohglgopaa
