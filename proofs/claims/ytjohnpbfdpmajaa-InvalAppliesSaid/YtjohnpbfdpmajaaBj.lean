/- The reference's Fill: contract. -/
import Derived.Test.YtjohnpbfdpmajaaBf
import Derived.Test.YtjohnpbfdpmajaaNe
set_option linter.all false

namespace Go.Proofs.Ytjohnpbfdpmajaa
open Go.ChangeShapes Go.WideShapes Go.ChangeAt Go.RowKit Go.Deep

theorem OwnR.grownO {Q Q2 : Type} {K : RowK Q} {K2 : RowK Q2} {w w' : World} {base base2 : Nat} {v v2 : Value} {L : List Q} {L2 : List Q2} (h : OwnR K w base v L) (h2 : OwnR K2 w base2 v2 L2) (ht : K.t ≠ K2.t) (hg : w.grownBy w' v2.ownBlock) : OwnR K w' base v L := by
  refine ⟨h.1, ?_⟩
  rcases h.2 with hn | ⟨g, cap, cur, rfl, hbg, hgg, rest⟩
  · exact .inl hn
  · refine .inr ⟨g, cap, cur, rfl, hbg, (hg.block g (Array.getElem?_eq_some_iff.1 hgg).1 ?_).trans hgg, rest⟩
    intro he
    rcases h2.2 with hn2 | ⟨g2, cap2, cur2, rfl, _, hgg2, _⟩
    · rw [hn2.1] at he; simp [Value.ownBlock] at he
    · have he2 : g = g2 := by simpa [Value.ownBlock] using he
      subst he2
      have := hgg.symm.trans hgg2
      simp at this
      exact ht this.2
theorem wpList_pushRl {Q : Type} {K : RowK Q} {w : World} {ops : Array Oper} {rest : List Oper} {o : Oper} {a : Act} {QQ : Exit → Act → World → Prop} (hgd : o.guard = none) (s x : Operand)
    (ho : o.op = .call { callee := .builtin .append, args := #[s, x], argTypes := #[K.ts, K.ts] })
    (base n : Nat) (v : Value) (L : List Q) (hs : a.eval s = v) (hown : OwnR K w base v L) (hn : n = L.length)
    (b c : Nat) (y : Q) (hx : a.eval x = .slice (some ⟨b, 0, none⟩) 1 c) (hy : ∀ i, i < K.N → w.cell? ⟨b, i, none⟩ = (K.V y)[i]?) (hk : n ≤ 100000) (hbase : base ≤ w.heap.size)
    (h : ∀ f' c' w', OwnR K w' base (.slice f' (n + 1) c') (L ++ [y]) → w.grownBy w' v.ownBlock → wpList Try.prog ops QQ rest (a.put o.dst (.slice f' (n + 1) c')) w') : wpList Try.prog ops QQ (o :: rest) a w := by
  subst hn
  exact wpList_pushR hgd s x ho base v L hs hown b c y hx hy hk hbase h
end Go.Proofs.Ytjohnpbfdpmajaa
