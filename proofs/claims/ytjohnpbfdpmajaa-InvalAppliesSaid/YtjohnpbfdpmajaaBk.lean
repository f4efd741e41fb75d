/- The reference's Drop: contract. -/
import Derived.Test.YtjohnpbfdpmajaaBj
import Derived.Test.YtjohnpbfdpmajaaTk
set_option linter.all false
namespace Go.Proofs.Ytjohnpbfdpmajaa
open Go.ChangeShapes Go.WideShapes Go.ChangeAt Go.RowKit Go.Deep

theorem RowsAt.take {Q : Type} {K : RowK Q} {w : World} {f : Option Addr} {L : List Q} (h : RowsAt K w f L) (i : Nat) : RowsAt K w f (L.take i) := by
  intro j q hj
  refine h j q ?_
  rw [List.getElem?_take] at hj
  split at hj
  · exact hj
  · cases hj
theorem RowsAt.from' {Q : Type} {K : RowK Q} {w : World} {b o : Nat} {L : List Q} (h : RowsAt K w (some ⟨b, o, none⟩) L) (i : Nat) : RowsAt K w (some ⟨b, o + i * K.N, none⟩) (L.drop i) := by
  intro j q hj
  rw [List.getElem?_drop] at hj
  obtain ⟨b', o', he, hr⟩ := h (i + j) q hj
  simp only [Option.some.injEq, Addr.mk.injEq, and_true] at he
  obtain ⟨rfl, rfl⟩ := he
  refine ⟨b, o + i * K.N, rfl, ?_⟩
  rw [Nat.add_assoc, ← Nat.add_mul]
  exact hr
theorem RowsAt.cut {Q : Type} {K : RowK Q} {w : World} {b o l c : Nat} {L : List Q} (h : RowsAt K w (some ⟨b, o, none⟩) L) (hl : l = L.length) (hc : l ≤ c) (i : Nat) (hi : i ≤ l) : RowsAt K w (if c = i then some ⟨b, o, none⟩ else some ⟨b, o + i * K.N, none⟩) (L.drop i) := by
  split
  · rw [List.drop_eq_nil_of_le (by omega)]
    exact RowsAt.nil _ _
  · exact h.from' i
theorem step_rowRl {Q : Type} {K : RowK Q} {w : World} {ops : Array Oper} {o : Oper} {a : Act} {KK : Act → World → Prop} {QQ : Exit → Act → World → Prop} {E : Prop} (hgd : o.guard = none) (s x : Operand)
    (ho : o.op = .call { callee := .builtin .append, args := #[s, x], argTypes := #[K.ts, K.ts] })
    (base n m : Nat) (v : Value) (L M : List Q) (hs : a.eval s = v) (hown : OwnR K w base v L) (hn : n = L.length)
    (f : Option Addr) (c : Nat) (hx : a.eval x = .slice f m c) (hm : m = M.length) (hM : RowsAt K w f M) (hf : f = none → c = 0) (hk : n + m ≤ 100000) (hbase : base ≤ w.heap.size)
    (h : ∀ f' c' w', OwnR K w' base (.slice f' (n + m) c') (L ++ M) → w.grownBy w' v.ownBlock → KK (a.put o.dst (.slice f' (n + m) c')) w') : if Region.wanted o (yielded ops a.tmps) = true then Oper.wp Try.prog o a w KK QQ else E := by
  subst hn hm
  exact step_rowR hgd s x ho base v L M hs hown f M.length c hx rfl hM hf hk hbase (fun f' c' w' h1 h2 _ => h f' c' w' h1 h2)
end Go.Proofs.Ytjohnpbfdpmajaa
