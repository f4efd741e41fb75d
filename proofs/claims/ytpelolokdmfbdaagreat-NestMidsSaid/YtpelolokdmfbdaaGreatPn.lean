/- What attributes may together; rows that are copied. -/
import Derived.Test.YtpelolokdmfbdaaGreatPb
namespace Go.Proofs.YtpelolokdmfbdaaGreat
open Go.ChangeShapes Go.WideShapes Go.ChangeAt Go.RowKit Go.Deep

theorem both_from (L : List Atr) (x : Atr) : L.foldl bothS x = ⟨x.r && L.all (·.r), x.w && L.all (·.w), x.x && L.all (·.x), x.a && L.all (·.a), x.n || L.any (·.n), x.s⟩ := by
  induction L generalizing x with
  | nil => simp
  | cons t L ih =>
    rw [List.foldl_cons, ih]
    simp [bothS, Bool.and_assoc, Bool.or_assoc]
theorem both_all (L : List Atr) : bothL L = ⟨L.all (·.r), L.all (·.w), L.all (·.x), L.all (·.a), L.any (·.n), 0⟩ := by
  unfold bothL
  rw [both_from]
  simp [both1]
theorem both_rev (L : List Atr) : bothL L.reverse = bothL L := by
  rw [both_all, both_all]
  simp
theorem both_le {L : List Atr} {t : Atr} (h : t ∈ L) : ((bothL L).r = true → t.r = true) ∧ ((bothL L).w = true → t.w = true) ∧ ((bothL L).x = true → t.x = true) ∧ ((bothL L).a = true → t.a = true) ∧ (t.n = true → (bothL L).n = true) := by
  rw [both_all]
  simp only [List.all_eq_true, List.any_eq_true]
  exact ⟨fun h2 => h2 t h, fun h2 => h2 t h, fun h2 => h2 t h, fun h2 => h2 t h, fun h2 => ⟨t, h, h2⟩⟩
theorem both_no (L : List Atr) : ∃ n, bothL (atr0 :: L) = ⟨false, false, false, false, n, 0⟩ := by
  rw [both_all]
  exact ⟨L.any (·.n), by simp [atr0]⟩
section
variable {Q : Type} {K : RowK Q}
theorem wpList_pushRn {w : World} {ops : Array Oper} {rest : List Oper} {o : Oper} {a : Act} {QQ : Exit → Act → World → Prop} (hgd : o.guard = none) (s x : Operand)
    (ho : o.op = .call { callee := .builtin .append, args := #[s, x], argTypes := #[K.ts, K.ts] })
    (base n : Nat) (v : Value) (L : List Q) (hs : a.eval s = v) (hown : OwnR K w base v L) (hn : n = L.length)
    (b c : Nat) (y : Q) (hx : a.eval x = .slice (some ⟨b, 0, none⟩) 1 c) (hy : ∀ i, i < K.N → w.cell? ⟨b, i, none⟩ = (K.V y)[i]?) (hk : n ≤ 100000) (hbase : base ≤ w.heap.size)
    (h : ∀ f' c' w', OwnR K w' base (.slice f' (n + 1) c') (L ++ [y]) → Below base w w' → wpList Tryz.prog ops QQ rest (a.put o.dst (.slice f' (n + 1) c')) w') : wpList Tryz.prog ops QQ (o :: rest) a w := by
  subst hn
  exact wpList_pushR hgd s x ho base v L hs hown b c y hx hy hk hbase (fun f' c' w' h1 h2 => h f' c' w' h1 ((Below.refl base w).grown h2 hbase hown.blk))
/-- 'append([]T{}, x...)': a row is copied. -/
theorem wpList_copyR {w : World} {ops : Array Oper} {rest : List Oper} {o : Oper} {a : Act} {QQ : Exit → Act → World → Prop} (hgd : o.guard = none) (s x : Operand)
    (ho : o.op = .call { callee := .builtin .append, args := #[s, x], argTypes := #[K.ts, K.ts] })
    (base g c0 : Nat) (M : List Q) (hs : a.eval s = .slice (some ⟨g, 0, none⟩) 0 c0) (hown : OwnR K w base (.slice (some ⟨g, 0, none⟩) 0 c0) [])
    (f : Option Addr) (m c : Nat) (hx : a.eval x = .slice f m c) (hm : m = M.length) (hM : RowsAt K w f M) (hf : f = none → c = 0) (hk : m ≤ 100000) (hbase : base ≤ w.heap.size)
    (h : ∀ f' c' w', OwnR K w' base (.slice f' m c') M → Below base w w' → wpList Tryz.prog ops QQ rest (a.put o.dst (.slice f' m c')) w') : wpList Tryz.prog ops QQ (o :: rest) a w := by
  subst hm
  refine wpList_rowR hgd s x ho base _ [] M hs hown f M.length c hx rfl hM hf (by simpa using hk) hbase (fun f' c' w' h1 h2 _ => ?_)
  simp only [List.length_nil, Nat.zero_add, List.nil_append] at h1 ⊢
  exact h f' c' w' h1 ((Below.refl base w).grown h2 hbase hown.blk)
/-- The same behind one that stands first. -/
theorem wpList_headR {w : World} {ops : Array Oper} {rest : List Oper} {o : Oper} {a : Act} {QQ : Exit → Act → World → Prop} (hgd : o.guard = none) (s x : Operand)
    (ho : o.op = .call { callee := .builtin .append, args := #[s, x], argTypes := #[K.ts, K.ts] })
    (base g c0 : Nat) (y : Q) (M : List Q) (hs : a.eval s = .slice (some ⟨g, 0, none⟩) 1 c0) (hown : OwnR K w base (.slice (some ⟨g, 0, none⟩) 1 c0) [y])
    (f : Option Addr) (m c : Nat) (hx : a.eval x = .slice f m c) (hm : m = M.length) (hM : RowsAt K w f M) (hf : f = none → c = 0) (hk : m ≤ 90000) (hbase : base ≤ w.heap.size)
    (h : ∀ f' c' w', OwnR K w' base (.slice f' (m + 1) c') (y :: M) → Below base w w' → wpList Tryz.prog ops QQ rest (a.put o.dst (.slice f' (m + 1) c')) w') : wpList Tryz.prog ops QQ (o :: rest) a w := by
  subst hm
  refine wpList_rowR hgd s x ho base _ [y] M hs hown f M.length c hx rfl hM hf (by simp; omega) hbase (fun f' c' w' h1 h2 _ => ?_)
  have e : [y].length + M.length = M.length + 1 := by simp [Nat.add_comm]
  rw [e] at h1 ⊢
  exact h f' c' w' h1 ((Below.refl base w).grown h2 hbase hown.blk)
end
end Go.Proofs.YtpelolokdmfbdaaGreat
