/- A struct that is loaded whole, where the order is set. -/
import Derived.Test.YtjohnpbfdpmajaaRk
import Derived.Deep.MidRow
set_option linter.all false
namespace Go.Proofs.Ytjohnpbfdpmajaa
open Go.ChangeShapes Go.WideShapes Go.ChangeAt Go.RowKit Go.Deep

theorem wpList_ldN {ops : Array Oper} {rest : List Oper} {o : Oper} {a : Act} {w : World} {Q : Exit → Act → World → Prop} (hgd : o.guard = none) (ty : TypeId) (x : Operand) (ho : o.op = .load ty x)
    (b off : Nat) (hx : a.eval x = .pointer (some ⟨b, off, none⟩)) (cs : Array Value) {d : TypeDesc} (hu : Try.prog.underlying ty = some d) (hd : d.isRow = true) (hi : (Try.prog.info? ty).map (·.size) = some cs.size)
    (hc : ∀ j v, cs[j]? = some v → w.cell? ⟨b, off + j, none⟩ = some v) (h : wpList Try.prog ops Q rest (a.put o.dst (.agg cs)) w) : wpList Try.prog ops Q (o :: rest) a w :=
  wpList_plain hgd fun _ hK => wp_load_mid ty x ho b off hx cs.toList d (fun j v hv => hc j v (by simpa using hv)) hu hd (by simpa using hi) (by rw [Array.toArray_toList]; exact hK _ _ h)
/-- The walk stands at a load, a store of this type: a cheap test ahead of a law with large arguments. -/
theorem atLoad (ty : TypeId) {x : Operand} {d : Option Tmp} {t : TypeId} {p : String} {af g} {ops : Array Oper} {rest : List Oper} {a : Act} {w : World} {Q : Exit → Act → World → Prop} (h : wpList Try.prog ops Q (⟨d, .load ty x, t, p, af, g⟩ :: rest) a w) : wpList Try.prog ops Q (⟨d, .load ty x, t, p, af, g⟩ :: rest) a w := h
theorem atStore (ty : TypeId) {x y : Operand} {d : Option Tmp} {t : TypeId} {p : String} {af g} {ops : Array Oper} {rest : List Oper} {a : Act} {w : World} {Q : Exit → Act → World → Prop} (h : wpList Try.prog ops Q (⟨d, .store ty x y, t, p, af, g⟩ :: rest) a w) : wpList Try.prog ops Q (⟨d, .store ty x y, t, p, af, g⟩ :: rest) a w := h
theorem RowAt.all {w : World} {b o N : Nat} {cs : Array Value} (h : RowAt w b o N cs) (hN : cs.size ≤ N) : ∀ j v, cs[j]? = some v → w.cell? ⟨b, o + j, none⟩ = some v := fun j v hv =>
  (h.c j (Nat.lt_of_lt_of_le (Array.getElem?_eq_some_iff.1 hv).1 hN)).trans hv
theorem BoxAt.all {w : World} {b : Nat} {cs : Array Value} {t : TypeId} (h : BoxAt w b cs t) : ∀ j v, cs[j]? = some v → w.cell? ⟨b, 0 + j, none⟩ = some v := fun j v hv => by
  rw [Nat.zero_add]
  exact h.get j v hv
end Go.Proofs.Ytjohnpbfdpmajaa
