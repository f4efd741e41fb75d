/- Whole structs stored and loaded in one step: boxes of cells behind 'setRow'. -/
import Derived.Test.YtlflfpohglgopaaIn
import Derived.Laws.Rows
import Derived.Laws.CopyOwn
import Derived.Deep.MidRow
set_option linter.all false
namespace Go.Proofs.Ytlflfpohglgopaa
open Go.ChangeShapes Go.WideShapes Go.ChangeAt Go.RowKit Go.Deep

theorem BoxAt.put {w : World} {b : Nat} {cs cs' : Array Value} {t : TypeId} (h : BoxAt w b cs t) : BoxAt (w.setRow b cs') b cs' t := ⟨setRow_heap w b cs cs' t (0, 0) h.h⟩
theorem BoxAt.row {w : World} {b g : Nat} {cs cs' : Array Value} {t : TypeId} (h : BoxAt w b cs t) (hne : b ≠ g) : BoxAt (w.setRow g cs') b cs t := ⟨(setRow_other w g b cs' hne).trans h.h⟩
theorem BoxAt.putAny {w : World} {b : Nat} {cs cs' : Array Value} {t : TypeId} (cs0 : Array Value) (h : BoxAt w b cs0 t) (he : cs' = cs) : BoxAt (w.setRow b cs') b cs t := by subst he; exact h.put
theorem Below.rowB {B g : Nat} {w0 w : World} {cs : Array Value} (hb : Below B w0 w) (hBg : B ≤ g) : Below B w0 (w.setRow g cs) := below_setRow hb hBg cs
theorem OwnI.row {w : World} {base g : Nat} {v : Value} {L : List Int} {cs : Array Value} (h : OwnI w base v L) (hb : g < base) : OwnI (w.setRow g cs) base v L := by
  refine ⟨h.1, ?_⟩
  rcases h.2 with hn | ⟨g', cap, cur, rfl, hbg, hgg, rest⟩
  · exact .inl hn
  · exact .inr ⟨g', cap, cur, rfl, hbg, (setRow_other w g g' cs (by omega)).trans hgg, rest⟩
theorem OwnI.rowN {w : World} {base g : Nat} {v : Value} {L : List Int} {cs : Array Value} (h : OwnI w base v L) (hb : v.ownBlock ≠ some g) : OwnI (w.setRow g cs) base v L := by
  refine ⟨h.1, ?_⟩
  rcases h.2 with hn | ⟨g', cap, cur, rfl, hbg, hgg, rest⟩
  · exact .inl hn
  · refine .inr ⟨g', cap, cur, rfl, hbg, (setRow_other w g g' cs ?_).trans hgg, rest⟩
    rintro rfl
    exact hb rfl
theorem OwnI.rowHi {w0 w : World} {base g : Nat} {v : Value} {L : List Int} {cs : Array Value} (h0 : OwnI w0 base v L) (h : OwnI w base v L) (hg : w0.heap.size ≤ g) : OwnI (w.setRow g cs) base v L :=
  h.rowN (fun e => by have := (World.ownsRow.lt h0 g e).2; omega)
theorem OwnI.under {B : Nat} {w w' : World} {base : Nat} {v : Value} {L : List Int} (h : OwnI w base v L) (hb : Below B w w') (hlt : ∀ k, v.ownBlock = some k → k < B) : OwnI w' base v L := by
  refine ⟨h.1, ?_⟩
  rcases h.2 with hn | ⟨g', cap, cur, rfl, hbg, hgg, rest⟩
  · exact .inl hn
  · exact .inr ⟨g', cap, cur, rfl, hbg, (hb.block g' (hlt g' rfl)).trans hgg, rest⟩
theorem OwnI.blt {w : World} {base : Nat} {v : Value} {L : List Int} (h : OwnI w base v L) : ∀ k, v.ownBlock = some k → k < w.heap.size := fun k hk => (World.ownsRow.lt h k hk).2
theorem cell_row {w : World} {b o g : Nat} {x : Value} {cs : Array Value} (hne : b ≠ g) (h : w.cell? ⟨b, o, none⟩ = some x) : (w.setRow g cs).cell? ⟨b, o, none⟩ = some x := (cell_setRow_other w g cs ⟨b, o, none⟩ hne).trans h
theorem frozen_row {w : World} {b o g : Nat} {cs : Array Value} (hne : b ≠ g) (h : w.frozen? ⟨b, o, none⟩ = false) : (w.setRow g cs).frozen? ⟨b, o, none⟩ = false := (World.frozen?_of_block (a := ⟨b, o, none⟩) (setRow_other w g b cs hne)).trans h

/-- A whole struct stored, in a region that draws its order. -/
theorem step_storeB {w : World} {ops : Array Oper} {o : Oper} {a : Act} {K : Act → World → Prop} {Q : Exit → Act → World → Prop} {E : Prop} (hgd : o.guard = none) (ty : TypeId) (x y : Operand) (ho : o.op = .store ty x y)
    (g : Nat) (cells old : Array Value) (t : TypeId) (hx : a.eval x = .pointer (some ⟨g, 0, none⟩)) (hy : a.eval y = .agg cells) (hi : (Try.prog.info? ty).map (·.size) = some cells.size) (hold : old.size = cells.size) (h1 : cells.all (·.oneCell') = true)
    (hB : BoxAt w g old t) (h : K (a.put o.dst undef) (w.setRow g cells)) : if Region.wanted o (yielded ops a.tmps) = true then Oper.wp Try.prog o a w K Q else E := by
  have hw : Region.wanted o (yielded ops a.tmps) = true := by simp [Region.wanted, hgd]
  rw [if_pos hw]
  exact wp_store_row ty x y ho g cells hx hy t old hB.h hi hold h1 h
/-- The same, where the order is set. -/
theorem wpList_storeB {w : World} {ops : Array Oper} {rest : List Oper} {o : Oper} {a : Act} {Q : Exit → Act → World → Prop} (hgd : o.guard = none) (ty : TypeId) (x y : Operand) (ho : o.op = .store ty x y)
    (g : Nat) (cells old : Array Value) (t : TypeId) (hx : a.eval x = .pointer (some ⟨g, 0, none⟩)) (hy : a.eval y = .agg cells) (hi : (Try.prog.info? ty).map (·.size) = some cells.size) (hold : old.size = cells.size) (h1 : cells.all (·.oneCell') = true)
    (hB : BoxAt w g old t) (h : wpList Try.prog ops Q rest (a.put o.dst undef) (w.setRow g cells)) : wpList Try.prog ops Q (o :: rest) a w :=
  wpList_store_row hgd ty x y ho g cells hx hy t old hB.h hi hold h1 h
end Go.Proofs.Ytlflfpohglgopaa
