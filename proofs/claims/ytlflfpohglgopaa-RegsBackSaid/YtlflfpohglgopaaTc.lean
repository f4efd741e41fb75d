/- Plain walking: a region that draws its order and whose last operations write what earlier ones read: those wait for the reads by a chain of operations. -/
import Derived.Test.YtlflfpohglgopaaTl
set_option linter.all false
namespace Go.Proofs.Ytlflfpohglgopaa
open Go.RowKit

section
variable {P : Program} {ops : Array Oper} {Q : Exit → Act → World → Prop} {md : Region.Mode} {S0 S : World → Prop} {T : List Nat}

theorem tail_firstR {S1 : World → Prop} {U : Array Bool → Prop} {i : Nat} {oi : Oper} {v : Value} (hi : ops[i]? = some oi) (hsel : ∀ (j : Nat) (o : Oper) cs b, ops[j]? = some o → o.op ≠ .select cs b) (hiT : i ∉ T)
    (hQ : ∀ c a w, Q (.panic c) (a.put oi.dst v) w → Q (.panic c) a w)
    (hstep : ∀ (listed : Array Bool) (j : Nat) (oj : Oper) w', ops[j]? = some oj → j ≠ i → (∀ e ∈ oj.after, Region.binds md e = true → listed.getD e.on false = true) → U listed → CondT S0 S T (listed.setIfInBounds j true) w' → S1 w' ∧ U (listed.setIfInBounds j true)) :
    ∀ (fuel : Nat) (listed : Array Bool) (a : Act) (w : World),
      (∀ j oj, ops[j]? = some oj → j ≠ i → listed.getD j true = false → (∀ e ∈ oj.after, Region.binds md e = true → e.on ≠ i) → oi.apart ops oj = true) →
      i ∈ Region.ready md ops listed → YieldsIf P ops S1 oi v a → CondT S0 S T listed w → S1 w → U listed →
      wpTail P md ops Q S0 S T fuel (listed.setIfInBounds i true) (a.put oi.dst v) w → wpTail P md ops Q S0 S T (fuel + 1) listed a w := by
  intro fuel
  have hset : ∀ (listed : Array Bool), ∀ t ∈ T, (listed.setIfInBounds i true).getD t true = listed.getD t true := fun listed t ht => getD_set_ne true (fun e => hiT (e ▸ ht))
  induction fuel with
  | zero =>
    intro listed a w _ hr hy hC h1 hU H
    refine ⟨fun h => absurd hr (by rw [h]; simp), fun j hj => ?_⟩
    by_cases hji : j = i
    · subst hji; exact hy.wpOp hi h1 ⟨hC.same (hset listed), H⟩
    · exact absurd (ready_mono hj hji) (by rw [H.1]; simp)
  | succ fuel ih =>
    intro listed a w hfree hr hy hC h1 hU H
    refine ⟨fun h => absurd hr (by rw [h]; simp), fun j hj => ?_⟩
    by_cases hji : j = i
    · subst hji; exact hy.wpOp hi h1 ⟨hC.same (hset listed), H⟩
    · have hun := (mem_ready.1 hr).1
      obtain ⟨hjun, oj, hoj, hall⟩ := mem_ready.1 hj
      have hnot : ∀ e ∈ oj.after, Region.binds md e = true → e.on ≠ i := by
        intro e he hb heq
        have h1 := hall e he hb
        rw [heq, getD_both hun] at h1
        cases h1
      have h2 := wpOp_putIf hoj (hfree j oj hoj hji hjun hnot) (fun cs b => hsel i oi cs b hi) (fun cs b => hsel j oj cs b hoj) hQ hy (H.2 j (ready_mono hj hji))
      refine wpOp_mono (fun a' w' h3 => ?_) h2
      have hC' : CondT S0 S T (listed.setIfInBounds j true) w' := by
        refine h3.2.1.same (fun t ht => ?_)
        rw [Array.setIfInBounds_comm _ _ (Ne.symm hji)]
        exact (hset _ t ht).symm
      obtain ⟨h4, h5⟩ := hstep listed j oj w' hoj hji hall hU hC'
      refine ⟨hC', ih (listed.setIfInBounds j true) a' w' ?_ (ready_mono hr (Ne.symm hji)) h3.1 hC' h4 h5 ?_⟩
      · intro k ok hk hki hunk hno
        refine hfree k ok hk hki ?_ hno
        by_cases hjk : j = k
        · subst hjk; exact hjun
        · rw [getD_set_ne true hjk] at hunk; exact hunk
      · rw [Array.setIfInBounds_comm _ _ hji]
        exact h3.2.2

/-- C waits for operation i, by whatever chain. -/
def chained (md : Region.Mode) (ops : Array Oper) (C : List Nat) (i : Nat) (listed : Array Bool) : Bool :=
  !listed.getD i true && C.all (fun c => !listed.getD c true && c != i && (Region.waitsFor md ops c i || C.any (fun k => Region.waitsFor md ops c k)))
/-- An operation that all of T wait for, by whatever chain, is taken first. -/
theorem tail_chain (i : Nat) (C : List Nat) {oi : Oper} {v : Value} {fuel : Nat} {listed : Array Bool} {a : Act} {w : World} (hi : ops[i]? = some oi)
    (hs : Region.noSelect ops = true) (hf : Region.free md ops listed i = true) (hr : (Region.ready md ops listed).contains i = true) (hn : (T.all (fun t => C.contains t) && chained md ops C i listed) = true)
    (hQ : ∀ c a w, Q (.panic c) (a.put oi.dst v) w → Q (.panic c) a w) (hS : S0 w ∧ S w) (hy : YieldsIf P ops S oi v a)
    (h : wpTail P md ops Q S0 S T fuel (listed.setIfInBounds i true) (a.put oi.dst v) w) : wpTail P md ops Q S0 S T (fuel + 1) listed a w := by
  simp only [Bool.and_eq_true, chained] at hn
  obtain ⟨hTC, hun, hC⟩ := hn
  have hun : listed.getD i true = false := by simpa using hun
  have hC' : ∀ c ∈ C, listed.getD c true = false ∧ c ≠ i ∧ (Region.waitsFor md ops c i = true ∨ ∃ k ∈ C, Region.waitsFor md ops c k = true) := by
    intro c hc
    have := List.all_eq_true.1 hC c hc
    simp only [Bool.and_eq_true, Bool.or_eq_true, List.any_eq_true, bne_iff_ne, Bool.not_eq_true'] at this
    exact ⟨this.1.1, this.1.2, this.2⟩
  have hT : ∀ t ∈ T, t ∈ C := fun t ht => by simpa using List.all_eq_true.1 hTC t ht
  refine tail_firstR (S1 := S) (U := fun listed => listed.getD i true = false ∧ ∀ c ∈ C, listed.getD c true = false) hi (Region.noSelect_spec hs) (fun h => (hC' i (hT i h)).2.1 rfl) hQ ?_ fuel listed a w (Region.free_spec hi hf) (by simpa using hr) hy (CondT.mk' hS) hS.2 ⟨hun, fun c hc => (hC' c hc).1⟩ h
  intro listed j oj w' hoj hji hall hU hK
  have hU' : (listed.setIfInBounds j true).getD i true = false ∧ ∀ c ∈ C, (listed.setIfInBounds j true).getD c true = false := by
    refine ⟨by rw [getD_set_ne true hji]; exact hU.1, fun c hc => ?_⟩
    rw [getD_set_ne true ?_]
    · exact hU.2 c hc
    · rintro rfl
      rcases (hC' j hc).2.2 with hw | ⟨k, hk, hw⟩
      · obtain ⟨o', ho', e, he, hb, hon⟩ := Region.waitsFor_spec hw
        obtain rfl := Option.some.inj (ho'.symm.trans hoj)
        have := hall e he hb
        rw [hon, getD_both hU.1] at this
        cases this
      · obtain ⟨o', ho', e, he, hb, hon⟩ := Region.waitsFor_spec hw
        obtain rfl := Option.some.inj (ho'.symm.trans hoj)
        have := hall e he hb
        rw [hon, getD_both (hU.2 k hk)] at this
        cases this
  exact ⟨hK.2 (fun t ht => hU'.2 t (hT t ht)), hU'⟩
end
end Go.Proofs.Ytlflfpohglgopaa
