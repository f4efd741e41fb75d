/- Plain walking: a region that draws its order and whose last operations write what earlier ones read: those wait for the reads by a chain of operations. What attributes may together; rows that are copied. -/
import Derived.Test.YtalbblaicmdhmaaGreatTl
import Derived.Test.YtalbblaicmdhmaaGreatPb
set_option linter.all false
namespace Go.Proofs.YtalbblaicmdhmaaGreat
section
open Go.RowKit

section
variable {P : Program} {ops : Array Oper} {Q : Exit → Act → World → Prop} {md : Region.Mode} {S0 S : World → Prop} {T : List Nat}

theorem tail_firstR {S1 : World → Prop} {U : Array Bool → Prop} {i : Nat} {oi : Oper} {v : Value} (hi : ops[i]? = some oi) (hsel : ∀ (j : Nat) (o : Oper) cs b, ops[j]? = some o → o.op ≠ .select cs b) (hiT : i ∉ T)
    (hQ : ∀ c a w, Q (.panic c) (a.put oi.dst v) w → Q (.panic c) a w)
    (hstep : ∀ (listed : Array Bool) (j : Nat) (oj : Oper) w', ops[j]? = some oj → j ≠ i → (∀ e ∈ oj.after, Region.binds md e = true → listed.getD e.on false = true) → U listed → CondT S0 S T (listed.setIfInBounds j true) w' → S1 w' ∧ U (listed.setIfInBounds j true)) :
    ∀ (fuel : Nat) (listed : Array Bool) (a : Act) (w : World),
      (∀ j oj, ops[j]? = some oj → j ≠ i → listed.getD j true = false → (∀ e ∈ oj.after, Region.binds md e = true → e.on ≠ i) → oi.apart ops oj = true) →
      i ∈ Region.ready md ops listed → YieldsIf P ops S1 oi v a → CondT S0 S T listed w → S1 w → U listed →
      wpTail P md ops Q S0 S T fuel (listed.setIfInBounds i true) (a.put oi.dst v) w → wpTail P md ops Q S0 S T (fuel + 1) listed a w := by
  intro fuel
  have hset : ∀ (listed : Array Bool), ∀ t ∈ T, (listed.setIfInBounds i true).getD t true = listed.getD t true := fun listed t ht => getD_set_ne true (fun e => hiT (e ▸ ht))
  induction fuel with
  | zero =>
    intro listed a w _ hr hy hC h1 hU H
    refine ⟨fun h => absurd hr (by rw [h]; simp), fun j hj => ?_⟩
    by_cases hji : j = i
    · subst hji; exact hy.wpOp hi h1 ⟨hC.same (hset listed), H⟩
    · exact absurd (ready_mono hj hji) (by rw [H.1]; simp)
  | succ fuel ih =>
    intro listed a w hfree hr hy hC h1 hU H
    refine ⟨fun h => absurd hr (by rw [h]; simp), fun j hj => ?_⟩
    by_cases hji : j = i
    · subst hji; exact hy.wpOp hi h1 ⟨hC.same (hset listed), H⟩
    · have hun := (mem_ready.1 hr).1
      obtain ⟨hjun, oj, hoj, hall⟩ := mem_ready.1 hj
      have hnot : ∀ e ∈ oj.after, Region.binds md e = true → e.on ≠ i := by
        intro e he hb heq
        have h1 := hall e he hb
        rw [heq, getD_both hun] at h1
        cases h1
      have h2 := wpOp_putIf hoj (hfree j oj hoj hji hjun hnot) (fun cs b => hsel i oi cs b hi) (fun cs b => hsel j oj cs b hoj) hQ hy (H.2 j (ready_mono hj hji))
      refine wpOp_mono (fun a' w' h3 => ?_) h2
      have hC' : CondT S0 S T (listed.setIfInBounds j true) w' := by
        refine h3.2.1.same (fun t ht => ?_)
        rw [Array.setIfInBounds_comm _ _ (Ne.symm hji)]
        exact (hset _ t ht).symm
      obtain ⟨h4, h5⟩ := hstep listed j oj w' hoj hji hall hU hC'
      refine ⟨hC', ih (listed.setIfInBounds j true) a' w' ?_ (ready_mono hr (Ne.symm hji)) h3.1 hC' h4 h5 ?_⟩
      · intro k ok hk hki hunk hno
        refine hfree k ok hk hki ?_ hno
        by_cases hjk : j = k
        · subst hjk; exact hjun
        · rw [getD_set_ne true hjk] at hunk; exact hunk
      · rw [Array.setIfInBounds_comm _ _ hji]
        exact h3.2.2

/-- C waits for operation i, by whatever chain. -/
def chained (md : Region.Mode) (ops : Array Oper) (C : List Nat) (i : Nat) (listed : Array Bool) : Bool :=
  !listed.getD i true && C.all (fun c => !listed.getD c true && c != i && (Region.waitsFor md ops c i || C.any (fun k => Region.waitsFor md ops c k)))
/-- An operation that all of T wait for, by whatever chain, is taken first. -/
theorem tail_chain (i : Nat) (C : List Nat) {oi : Oper} {v : Value} {fuel : Nat} {listed : Array Bool} {a : Act} {w : World} (hi : ops[i]? = some oi)
    (hs : Region.noSelect ops = true) (hf : Region.free md ops listed i = true) (hr : (Region.ready md ops listed).contains i = true) (hn : (T.all (fun t => C.contains t) && chained md ops C i listed) = true)
    (hQ : ∀ c a w, Q (.panic c) (a.put oi.dst v) w → Q (.panic c) a w) (hS : S0 w ∧ S w) (hy : YieldsIf P ops S oi v a)
    (h : wpTail P md ops Q S0 S T fuel (listed.setIfInBounds i true) (a.put oi.dst v) w) : wpTail P md ops Q S0 S T (fuel + 1) listed a w := by
  simp only [Bool.and_eq_true, chained] at hn
  obtain ⟨hTC, hun, hC⟩ := hn
  have hun : listed.getD i true = false := by simpa using hun
  have hC' : ∀ c ∈ C, listed.getD c true = false ∧ c ≠ i ∧ (Region.waitsFor md ops c i = true ∨ ∃ k ∈ C, Region.waitsFor md ops c k = true) := by
    intro c hc
    have := List.all_eq_true.1 hC c hc
    simp only [Bool.and_eq_true, Bool.or_eq_true, List.any_eq_true, bne_iff_ne, Bool.not_eq_true'] at this
    exact ⟨this.1.1, this.1.2, this.2⟩
  have hT : ∀ t ∈ T, t ∈ C := fun t ht => by simpa using List.all_eq_true.1 hTC t ht
  refine tail_firstR (S1 := S) (U := fun listed => listed.getD i true = false ∧ ∀ c ∈ C, listed.getD c true = false) hi (Region.noSelect_spec hs) (fun h => (hC' i (hT i h)).2.1 rfl) hQ ?_ fuel listed a w (Region.free_spec hi hf) (by simpa using hr) hy (CondT.mk' hS) hS.2 ⟨hun, fun c hc => (hC' c hc).1⟩ h
  intro listed j oj w' hoj hji hall hU hK
  have hU' : (listed.setIfInBounds j true).getD i true = false ∧ ∀ c ∈ C, (listed.setIfInBounds j true).getD c true = false := by
    refine ⟨by rw [getD_set_ne true hji]; exact hU.1, fun c hc => ?_⟩
    rw [getD_set_ne true ?_]
    · exact hU.2 c hc
    · rintro rfl
      rcases (hC' j hc).2.2 with hw | ⟨k, hk, hw⟩
      · obtain ⟨o', ho', e, he, hb, hon⟩ := Region.waitsFor_spec hw
        obtain rfl := Option.some.inj (ho'.symm.trans hoj)
        have := hall e he hb
        rw [hon, getD_both hU.1] at this
        cases this
      · obtain ⟨o', ho', e, he, hb, hon⟩ := Region.waitsFor_spec hw
        obtain rfl := Option.some.inj (ho'.symm.trans hoj)
        have := hall e he hb
        rw [hon, getD_both (hU.2 k hk)] at this
        cases this
  exact ⟨hK.2 (fun t ht => hU'.2 t (hT t ht)), hU'⟩
end
end
section
open Go.ChangeShapes Go.WideShapes Go.ChangeAt Go.RowKit Go.Deep

theorem both_from (L : List Atr) (x : Atr) : L.foldl bothS x = ⟨x.r && L.all (·.r), x.w && L.all (·.w), x.x && L.all (·.x), x.a && L.all (·.a), x.n || L.any (·.n), x.s⟩ := by
  induction L generalizing x with
  | nil => simp
  | cons t L ih =>
    rw [List.foldl_cons, ih]
    simp [bothS, Bool.and_assoc, Bool.or_assoc]
theorem both_all (L : List Atr) : bothL L = ⟨L.all (·.r), L.all (·.w), L.all (·.x), L.all (·.a), L.any (·.n), 0⟩ := by
  unfold bothL
  rw [both_from]
  simp [both1]
theorem both_rev (L : List Atr) : bothL L.reverse = bothL L := by
  rw [both_all, both_all]
  simp
theorem both_le {L : List Atr} {t : Atr} (h : t ∈ L) : ((bothL L).r = true → t.r = true) ∧ ((bothL L).w = true → t.w = true) ∧ ((bothL L).x = true → t.x = true) ∧ ((bothL L).a = true → t.a = true) ∧ (t.n = true → (bothL L).n = true) := by
  rw [both_all]
  simp only [List.all_eq_true, List.any_eq_true]
  exact ⟨fun h2 => h2 t h, fun h2 => h2 t h, fun h2 => h2 t h, fun h2 => h2 t h, fun h2 => ⟨t, h, h2⟩⟩
theorem both_no (L : List Atr) : ∃ n, bothL (atr0 :: L) = ⟨false, false, false, false, n, 0⟩ := by
  rw [both_all]
  exact ⟨L.any (·.n), by simp [atr0]⟩
section
variable {Q : Type} {K : RowK Q}
theorem wpList_pushRn {w : World} {ops : Array Oper} {rest : List Oper} {o : Oper} {a : Act} {QQ : Exit → Act → World → Prop} (hgd : o.guard = none) (s x : Operand)
    (ho : o.op = .call { callee := .builtin .append, args := #[s, x], argTypes := #[K.ts, K.ts] })
    (base n : Nat) (v : Value) (L : List Q) (hs : a.eval s = v) (hown : OwnR K w base v L) (hn : n = L.length)
    (b c : Nat) (y : Q) (hx : a.eval x = .slice (some ⟨b, 0, none⟩) 1 c) (hy : ∀ i, i < K.N → w.cell? ⟨b, i, none⟩ = (K.V y)[i]?) (hk : n ≤ 100000) (hbase : base ≤ w.heap.size)
    (h : ∀ f' c' w', OwnR K w' base (.slice f' (n + 1) c') (L ++ [y]) → Below base w w' → wpList Tryz.prog ops QQ rest (a.put o.dst (.slice f' (n + 1) c')) w') : wpList Tryz.prog ops QQ (o :: rest) a w := by
  subst hn
  exact wpList_pushR hgd s x ho base v L hs hown b c y hx hy hk hbase (fun f' c' w' h1 h2 => h f' c' w' h1 ((Below.refl base w).grown h2 hbase hown.blk))
/-- 'append([]T{}, x...)': a row is copied. -/
theorem wpList_copyR {w : World} {ops : Array Oper} {rest : List Oper} {o : Oper} {a : Act} {QQ : Exit → Act → World → Prop} (hgd : o.guard = none) (s x : Operand)
    (ho : o.op = .call { callee := .builtin .append, args := #[s, x], argTypes := #[K.ts, K.ts] })
    (base g c0 : Nat) (M : List Q) (hs : a.eval s = .slice (some ⟨g, 0, none⟩) 0 c0) (hown : OwnR K w base (.slice (some ⟨g, 0, none⟩) 0 c0) [])
    (f : Option Addr) (m c : Nat) (hx : a.eval x = .slice f m c) (hm : m = M.length) (hM : RowsAt K w f M) (hf : f = none → c = 0) (hk : m ≤ 100000) (hbase : base ≤ w.heap.size)
    (h : ∀ f' c' w', OwnR K w' base (.slice f' m c') M → Below base w w' → wpList Tryz.prog ops QQ rest (a.put o.dst (.slice f' m c')) w') : wpList Tryz.prog ops QQ (o :: rest) a w := by
  subst hm
  refine wpList_rowR hgd s x ho base _ [] M hs hown f M.length c hx rfl hM hf (by simpa using hk) hbase (fun f' c' w' h1 h2 _ => ?_)
  simp only [List.length_nil, Nat.zero_add, List.nil_append] at h1 ⊢
  exact h f' c' w' h1 ((Below.refl base w).grown h2 hbase hown.blk)
/-- The same behind one that stands first. -/
theorem wpList_headR {w : World} {ops : Array Oper} {rest : List Oper} {o : Oper} {a : Act} {QQ : Exit → Act → World → Prop} (hgd : o.guard = none) (s x : Operand)
    (ho : o.op = .call { callee := .builtin .append, args := #[s, x], argTypes := #[K.ts, K.ts] })
    (base g c0 : Nat) (y : Q) (M : List Q) (hs : a.eval s = .slice (some ⟨g, 0, none⟩) 1 c0) (hown : OwnR K w base (.slice (some ⟨g, 0, none⟩) 1 c0) [y])
    (f : Option Addr) (m c : Nat) (hx : a.eval x = .slice f m c) (hm : m = M.length) (hM : RowsAt K w f M) (hf : f = none → c = 0) (hk : m ≤ 90000) (hbase : base ≤ w.heap.size)
    (h : ∀ f' c' w', OwnR K w' base (.slice f' (m + 1) c') (y :: M) → Below base w w' → wpList Tryz.prog ops QQ rest (a.put o.dst (.slice f' (m + 1) c')) w') : wpList Tryz.prog ops QQ (o :: rest) a w := by
  subst hm
  refine wpList_rowR hgd s x ho base _ [y] M hs hown f M.length c hx rfl hM hf (by simp; omega) hbase (fun f' c' w' h1 h2 _ => ?_)
  have e : [y].length + M.length = M.length + 1 := by simp [Nat.add_comm]
  rw [e] at h1 ⊢
  exact h f' c' w' h1 ((Below.refl base w).grown h2 hbase hown.blk)
end
end
end Go.Proofs.YtalbblaicmdhmaaGreat
