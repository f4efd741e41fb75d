/- Plain walking: a region that draws its order and whose last operations write what earlier ones read: the invariant S0 holds behind every operation, S as long as none of those was carried out. -/
import Derived.Test.YtlflfpohglgopaaWd
import Derived.OrdersHeld
import Derived.StillTail
import Derived.Deep.RegionHeld3
set_option linter.all false
namespace Go.Proofs.Ytlflfpohglgopaa
open Go.RowKit

section
variable {P : Program} {ops : Array Oper} {Q : Exit → Act → World → Prop} {md : Region.Mode} {S0 S : World → Prop} {T : List Nat}

/-- S0 holds, and S as long as none of T is listed. -/
def CondT (S0 S : World → Prop) (T : List Nat) (listed : Array Bool) (w : World) : Prop := S0 w ∧ ((∀ t ∈ T, listed.getD t true = false) → S w)
theorem CondT.mk' {listed : Array Bool} {w : World} (h : S0 w ∧ S w) : CondT S0 S T listed w := ⟨h.1, fun _ => h.2⟩
theorem CondT.same {listed listed' : Array Bool} {w : World} (h : CondT S0 S T listed w) (hu : ∀ t ∈ T, listed'.getD t true = listed.getD t true) : CondT S0 S T listed' w :=
  ⟨h.1, fun h2 => h.2 fun t ht => (hu t ht).symm.trans (h2 t ht)⟩
theorem getD_set_self (listed : Array Bool) (i : Nat) : (listed.setIfInBounds i true).getD i true = true := by
  rcases Nat.lt_or_ge i listed.size with h | h
  · simp [h]
  · simp
/-- Whatever order is picked. -/
def wpTail (P : Program) (md : Region.Mode) (ops : Array Oper) (Q : Exit → Act → World → Prop) (S0 S : World → Prop) (T : List Nat) : Nat → Array Bool → Act → World → Prop
  | 0, listed, a, w => Region.ready md ops listed = [] ∧ Q .normal a w
  | fuel + 1, listed, a, w =>
    (Region.ready md ops listed = [] → Q .normal a w) ∧
    ∀ i ∈ Region.ready md ops listed, wpOp P ops Q i (fun a' w' => CondT S0 S T (listed.setIfInBounds i true) w' ∧ wpTail P md ops Q S0 S T fuel (listed.setIfInBounds i true) a' w') a w

theorem tail_any : ∀ (fuel : Nat) (listed : Array Bool) (a : Act) (w : World), wpTail P md ops Q S0 S T fuel listed a w → wpAny P md ops Q fuel listed a w
  | 0, _, _, _, h => h
  | fuel + 1, _, _, _, h => ⟨h.1, fun i hi => wpOp_mono (fun a' w' h' => tail_any fuel _ a' w' h'.2) (h.2 i hi)⟩

/-- One that yields in whatever world meets S1, S1 being kept by all that may come ahead of it. -/
theorem tail_first {S1 : World → Prop} {U : Array Bool → Prop} {i : Nat} {oi : Oper} {v : Value} (hi : ops[i]? = some oi) (hsel : ∀ (j : Nat) (o : Oper) cs b, ops[j]? = some o → o.op ≠ .select cs b) (hiT : i ∉ T)
    (hQ : ∀ c a w, Q (.panic c) (a.put oi.dst v) w → Q (.panic c) a w)
    (hstep : ∀ (listed : Array Bool) (j : Nat) (oj : Oper) w', ops[j]? = some oj → (∀ e ∈ oj.after, Region.binds md e = true → e.on ≠ i) → U listed → CondT S0 S T (listed.setIfInBounds j true) w' → S1 w' ∧ U (listed.setIfInBounds j true)) :
    ∀ (fuel : Nat) (listed : Array Bool) (a : Act) (w : World),
      (∀ j oj, ops[j]? = some oj → j ≠ i → listed.getD j true = false → (∀ e ∈ oj.after, Region.binds md e = true → e.on ≠ i) → oi.apart ops oj = true) →
      i ∈ Region.ready md ops listed → YieldsIf P ops S1 oi v a → CondT S0 S T listed w → S1 w → U listed →
      wpTail P md ops Q S0 S T fuel (listed.setIfInBounds i true) (a.put oi.dst v) w → wpTail P md ops Q S0 S T (fuel + 1) listed a w := by
  intro fuel
  have hset : ∀ (listed : Array Bool), ∀ t ∈ T, (listed.setIfInBounds i true).getD t true = listed.getD t true := fun listed t ht => getD_set_ne true (fun e => hiT (e ▸ ht))
  induction fuel with
  | zero =>
    intro listed a w _ hr hy hC h1 hU H
    refine ⟨fun h => absurd hr (by rw [h]; simp), fun j hj => ?_⟩
    by_cases hji : j = i
    · subst hji; exact hy.wpOp hi h1 ⟨hC.same (hset listed), H⟩
    · exact absurd (ready_mono hj hji) (by rw [H.1]; simp)
  | succ fuel ih =>
    intro listed a w hfree hr hy hC h1 hU H
    refine ⟨fun h => absurd hr (by rw [h]; simp), fun j hj => ?_⟩
    by_cases hji : j = i
    · subst hji; exact hy.wpOp hi h1 ⟨hC.same (hset listed), H⟩
    · have hun := (mem_ready.1 hr).1
      obtain ⟨hjun, oj, hoj, hall⟩ := mem_ready.1 hj
      have hnot : ∀ e ∈ oj.after, Region.binds md e = true → e.on ≠ i := by
        intro e he hb heq
        have h1 := hall e he hb
        rw [heq, getD_both hun] at h1
        cases h1
      have h2 := wpOp_putIf hoj (hfree j oj hoj hji hjun hnot) (fun cs b => hsel i oi cs b hi) (fun cs b => hsel j oj cs b hoj) hQ hy (H.2 j (ready_mono hj hji))
      refine wpOp_mono (fun a' w' h3 => ?_) h2
      have hC' : CondT S0 S T (listed.setIfInBounds j true) w' := by
        refine h3.2.1.same (fun t ht => ?_)
        rw [Array.setIfInBounds_comm _ _ (Ne.symm hji)]
        exact (hset _ t ht).symm
      obtain ⟨h4, h5⟩ := hstep listed j oj w' hoj hnot hU hC'
      refine ⟨hC', ih (listed.setIfInBounds j true) a' w' ?_ (ready_mono hr (Ne.symm hji)) h3.1 hC' h4 h5 ?_⟩
      · intro k ok hk hki hunk hno
        refine hfree k ok hk hki ?_ hno
        by_cases hjk : j = k
        · subst hjk; exact hjun
        · rw [getD_set_ne true hjk] at hunk; exact hunk
      · rw [Array.setIfInBounds_comm _ _ hji]
        exact h3.2.2

/-- An operation that all of T wait for is taken first. -/
theorem tail_take (i : Nat) {oi : Oper} {v : Value} {fuel : Nat} {listed : Array Bool} {a : Act} {w : World} (hi : ops[i]? = some oi)
    (hs : Region.noSelect ops = true) (hf : Region.free md ops listed i = true) (hr : (Region.ready md ops listed).contains i = true) (hn : T.all (fun n => Region.waitsFor md ops n i && (!listed.getD n true && n != i)) = true)
    (hQ : ∀ c a w, Q (.panic c) (a.put oi.dst v) w → Q (.panic c) a w) (hS : S0 w ∧ S w) (hy : YieldsIf P ops S oi v a)
    (h : wpTail P md ops Q S0 S T fuel (listed.setIfInBounds i true) (a.put oi.dst v) w) : wpTail P md ops Q S0 S T (fuel + 1) listed a w := by
  have hn' : ∀ t ∈ T, Region.waitsFor md ops t i = true ∧ listed.getD t true = false ∧ t ≠ i := by
    intro t ht
    have := List.all_eq_true.1 hn t ht
    simpa [Bool.and_eq_true, bne_iff_ne] using this
  refine tail_first (S1 := S) (U := fun listed => ∀ t ∈ T, listed.getD t true = false) hi (Region.noSelect_spec hs) (fun h => (hn' i h).2.2 rfl) hQ ?_ fuel listed a w (Region.free_spec hi hf) (by simpa using hr) hy (CondT.mk' hS) hS.2 (fun t ht => (hn' t ht).2.1) h
  intro listed j oj w' hoj hno hU hC
  have hU' : ∀ t ∈ T, (listed.setIfInBounds j true).getD t true = false := by
    intro t ht
    rw [getD_set_ne true ?_]
    · exact hU t ht
    · rintro rfl
      obtain ⟨o', ho', e, he, hb, hon⟩ := Region.waitsFor_spec (hn' j ht).1
      obtain rfl := Option.some.inj (ho'.symm.trans hoj)
      exact hno e he hb hon
  exact ⟨hC.2 hU', hU'⟩
/-- An operation that reads only what T leaves alone is taken first. -/
theorem tail_read (i : Nat) {oi : Oper} {v : Value} {fuel : Nat} {listed : Array Bool} {a : Act} {w : World} (hi : ops[i]? = some oi)
    (hs : Region.noSelect ops = true) (hf : Region.free md ops listed i = true) (hr : (Region.ready md ops listed).contains i = true) (hn : T.all (fun n => n != i) = true)
    (hQ : ∀ c a w, Q (.panic c) (a.put oi.dst v) w → Q (.panic c) a w) (hS : S0 w ∧ S w) (hy : YieldsIf P ops S0 oi v a)
    (h : wpTail P md ops Q S0 S T fuel (listed.setIfInBounds i true) (a.put oi.dst v) w) : wpTail P md ops Q S0 S T (fuel + 1) listed a w := by
  refine tail_first (S1 := S0) (U := fun _ => True) hi (Region.noSelect_spec hs) (fun h => ?_) hQ (fun listed j oj w' _ _ _ hC => ⟨hC.1, trivial⟩) fuel listed a w (Region.free_spec hi hf) (by simpa using hr) hy (CondT.mk' hS) hS.1 trivial h
  have := List.all_eq_true.1 hn i h
  simp at this
/-- One alone may come up, and it is none of T. -/
theorem tail_one (i : Nat) {o : Oper} {fuel : Nat} {listed : Array Bool} {a : Act} {w : World} (hr : Region.ready md ops listed = [i]) (ho : ops[i]? = some o)
    (h : ∀ K' : Act → World → Prop, Shut (∀ a w, S0 w ∧ S w → (S0 w ∧ S w → wpTail P md ops Q S0 S T fuel (listed.setIfInBounds i true) a w) → K' a w) → if Region.wanted o (yielded ops a.tmps) = true then Oper.wp P o a w K' Q else K' (a.put o.dst undef) w) :
    wpTail P md ops Q S0 S T (fuel + 1) listed a w := by
  refine ⟨fun h0 => absurd h0 (by rw [hr]; simp), fun j hj => ?_⟩
  rw [hr] at hj
  obtain rfl : j = i := by simpa using hj
  exact wpOp_step ho (fun K' hK => h K' (fun a w hS hW => hK a w ⟨CondT.mk' hS, hW hS⟩))

/-- One of T alone comes up. -/
theorem tail_last (i : Nat) {o : Oper} {fuel : Nat} {listed : Array Bool} {a : Act} {w : World} (hT : i ∈ T) (hr : Region.ready md ops listed = [i]) (ho : ops[i]? = some o)
    (h : ∀ K' : Act → World → Prop, Shut (∀ a w, S0 w → wpTail P md ops Q S0 S T fuel (listed.setIfInBounds i true) a w → K' a w) → if Region.wanted o (yielded ops a.tmps) = true then Oper.wp P o a w K' Q else K' (a.put o.dst undef) w) :
    wpTail P md ops Q S0 S T (fuel + 1) listed a w := by
  refine ⟨fun h0 => absurd h0 (by rw [hr]; simp), fun j hj => ?_⟩
  rw [hr] at hj
  obtain rfl : j = i := by simpa using hj
  exact wpOp_step ho (fun K' hK => h K' (fun a w h0 hq => hK a w ⟨⟨h0, fun hu => absurd (hu j hT) (by rw [getD_set_self]; simp)⟩, hq⟩))
/-- One alone comes up behind one of T, and reads. -/
theorem tail_after (i : Nat) {o : Oper} {fuel : Nat} {listed : Array Bool} {a : Act} {w : World} (hT : T.any (fun t => listed.getD t true && t != i) = true) (hr : Region.ready md ops listed = [i]) (ho : ops[i]? = some o)
    (h : ∀ K' : Act → World → Prop, Shut (∀ a w, S0 w → wpTail P md ops Q S0 S T fuel (listed.setIfInBounds i true) a w → K' a w) → if Region.wanted o (yielded ops a.tmps) = true then Oper.wp P o a w K' Q else K' (a.put o.dst undef) w) :
    wpTail P md ops Q S0 S T (fuel + 1) listed a w := by
  refine ⟨fun h0 => absurd h0 (by rw [hr]; simp), fun j hj => ?_⟩
  rw [hr] at hj
  obtain rfl : j = i := by simpa using hj
  obtain ⟨t, ht, h2⟩ := List.any_eq_true.1 hT
  simp only [Bool.and_eq_true, bne_iff_ne, ne_eq] at h2
  exact wpOp_step ho (fun K' hK => h K' (fun a w h0 hq => hK a w ⟨⟨h0, fun hu => absurd (hu t ht) (by rw [getD_set_ne true (fun e => h2.2 e.symm), h2.1]; simp)⟩, hq⟩))
theorem tail_done {fuel : Nat} {listed : Array Bool} {a : Act} {w : World} (hr : Region.ready md ops listed = []) (hq : Q .normal a w) : wpTail P md ops Q S0 S T fuel listed a w := by
  cases fuel with
  | zero => exact ⟨hr, hq⟩
  | succ n => exact ⟨fun _ => hq, fun i hi => by rw [hr] at hi; simp at hi⟩

theorem wp_region_tail {id : Nat} {a : Act} {w : World} (T : List Nat) (S0 S : World → Prop) (hm : P.follows .mixedOrders = true)
    (h : wpTail P .any ops Q S0 S T ops.size (Array.replicate ops.size false) a w.drew) : (Code.region id ops true).wp P Q a w :=
  wp_region_any hm (tail_any _ _ _ _ h)
end
end Go.Proofs.Ytlflfpohglgopaa
