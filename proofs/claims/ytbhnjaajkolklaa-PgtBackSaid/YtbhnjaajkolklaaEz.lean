/- A function's text, carried out by the kernel: an operation, for all numbers at once. -/
import Derived.Test.YtbhnjaajkolklaaEx
set_option linter.all false
namespace Go.Proofs.Ytbhnjaajkolklaa
open Go.ChangeShapes Go.WideShapes Go.ChangeAt Go.RowKit Go.Deep

def Agr (A : Nat → Prop) (β E : Sup) : Prop := ∀ i, A i → E i = β i
theorem Agr.refl (A : Nat → Prop) (β : Sup) : Agr A β β := fun _ _ => rfl
/-- All but what these turn is as it was. -/
def Frame (h : List Bx) (w w' : World) : Prop := ∀ k, k < w.heap.size → (∀ (i : Nat) (x : Bx), h[i]? = some x → ¬ x.fp k) → w'.heap[k]? = w.heap[k]?
def setS (β : Sup) (n : Nat) (q : Nat × Option Addr) : Sup := fun i => if i = n then q else β i
theorem setS_agr {A : Nat → Prop} {β : Sup} {n : Nat} {q : Nat × Option Addr} (hn : ¬ A n) : Agr A β (setS β n q) := fun i hi => if_neg fun e => hn (by rw [← e]; exact hi)
/-- What is known of the numbers behind an operation that took k of them. -/
structure Took (A : Nat → Prop) (β : Sup) (nx k : Nat) (A' : Nat → Prop) (β' : Sup) : Prop where
  a : ∀ i, A' i ↔ A i ∨ (nx ≤ i ∧ i < nx + k)
  b : ∀ i, A i → β' i = β i
theorem Took.agr {A : Nat → Prop} {β : Sup} {nx k : Nat} {A' : Nat → Prop} {β' : Sup} (h : Took A β nx k A' β') {E : Sup} (hE : Agr A' β' E) : Agr A β E := fun i hi => (hE i ((h.a i).2 (Or.inl hi))).trans (h.b i hi)
theorem Took.none (A : Nat → Prop) (β : Sup) (nx : Nat) : Took A β nx 0 A β := ⟨fun i => ⟨Or.inl, fun h => h.resolve_right fun h => by omega⟩, fun _ _ => rfl⟩
theorem Took.one {A : Nat → Prop} {β : Sup} {nx : Nat} (hn : ¬ A nx) (q : Nat × Option Addr) : Took A β nx 1 (fun i => A i ∨ i = nx) (setS β nx q) :=
  ⟨fun _ => ⟨fun h => h.imp id fun h => by omega, fun h => h.imp id fun h => by omega⟩, fun i hi => setS_agr hn i hi⟩
def setRun (β : Sup) (n k : Nat) (q : Sup) : Sup := fun i => if n ≤ i ∧ i < n + k then q i else β i
theorem Took.many {A : Nat → Prop} {β : Sup} {nx k : Nat} (hn : ∀ i, nx ≤ i → i < nx + k → ¬ A i) (q : Sup) : Took A β nx k (fun i => A i ∨ (nx ≤ i ∧ i < nx + k)) (setRun β nx k q) :=
  ⟨fun _ => Iff.rfl, fun i hi => if_neg fun h => hn i h.1 h.2 hi⟩
theorem run_fam {ρ : Type} {P : Program} {α : Type} {ft : List Nat} {w0 w : World} {nx : Nat} {m : Sem α} {nw : Bool} {l : List (Nat × Nat × Nat)} {A : Nat → Prop} {β : Sup} {K : Sup → α → List Bx → Cl ρ} {Φ : Sup → List Bx → ρ → Prop}
    (hnx : ¬ A nx) (hyp : ∀ E, Agr A β E → ∃ h d, Goods (srun P E nx m nw ⟨h, l⟩ (K E)) d ∧ Fits ft w0 h w ∧ Φ E h d) :
    ∃ a w' A' β', m.run P w = .ok a w' ∧ Took A β nx (if nw then 1 else 0) A' β' ∧ w.heap.size ≤ w'.heap.size ∧ (nw = true → (β' nx).1 = w.heap.size) ∧
      ∀ E, Agr A' β' E → ∃ h d h', Goods (K E a h') d ∧ Fits ft w0 h' w' ∧ Frame h w w' ∧ Rel h h' w ∧ Φ E h d := by
  have hA1 : Agr A β (setS β nx (w.heap.size, none)) := setS_agr hnx
  obtain ⟨h0, d0, g0, f0, _⟩ := hyp _ hA1
  obtain ⟨a, h1, w', r1, _, _, r4, _, _⟩ := srun_sound m nw ⟨h0, l⟩ w g0 f0 (fun _ => by simp [setS])
  have fin : ∀ E, Agr A β E → (nw = true → (E nx).1 = w.heap.size) → ∃ h d h', Goods (K E a h') d ∧ Fits ft w0 h' w' ∧ Frame h w w' ∧ Rel h h' w ∧ Φ E h d := by
    intro E hE hp
    obtain ⟨h, d, g, f, hΦ⟩ := hyp E hE
    obtain ⟨a2, h2, w2, s1, s2, s3, _, s5, s6⟩ := srun_sound m nw ⟨h, l⟩ w g f hp
    rw [r1] at s1
    injection s1 with e1 e2
    subst e1 e2
    exact ⟨h, d, h2, s2, s3, s5, s6, hΦ⟩
  cases nw with
  | false => exact ⟨a, w', A, β, r1, Took.none A β nx, r4, (fun h => by cases h), fun E hE => fin E hE (fun h => by cases h)⟩
  | true =>
    refine ⟨a, w', _, _, r1, Took.one hnx (w.heap.size, none), r4, (fun _ => by simp [setS]), fun E hE => fin E ((Took.one hnx _).agr hE) fun _ => ?_⟩
    rw [hE nx (Or.inr rfl)]
    simp [setS]
/-- What neither makes nor looks at blocks. -/
theorem srun_quiet {ρ : Type} {P : Program} {α : Type} {E : Sup} {nx : Nat} {h : List Bx} {K : α → List Bx → Cl ρ} {d : ρ} (m : Sem α) : Goods (srun P E nx m false ⟨h, []⟩ K) d → ∃ a, (∀ w, m.run P w = .ok a w) ∧ Goods (K a h) d := by
  induction m with
  | pure a => intro hg; exact ⟨a, fun _ => rfl, hg⟩
  | program k ih => intro hg; exact ih P hg
  | mark md k ih => intro hg; exact ih hg
  | new o k ih =>
    intro hg
    simp only [srun] at hg
    exact hg.no.elim
  | _ => intro hg; exact hg.no.elim
/-- Blocks that are known turn. -/
theorem Fits.turns {ft : List Nat} {w0 w w' : World} {h h2 : List Bx} (H : Fits ft w0 h w) {l : List (Nat × (Env → Bx))} {E : Env}
    (hc : ∀ (j : Nat) (z : Bx), h2[j]? = some z → ∃ x, h[j]? = some x ∧ ((z = x ∧ ∀ p ∈ l, p.1 ≠ j) ∨ (x.fp = x.rd ∧ (z.rd = x.rd ∨ z.rd = noS) ∧ ∃ p ∈ l, p.1 = j ∧ z = p.2 E)))
    (hp : ∀ p ∈ l, (p.2 E).Holds ft w0 w') (hk : Keep ft w0 w') (hs : w.heap.size ≤ w'.heap.size)
    (hb : ∀ k, k < w.heap.size → (∀ (j : Nat) (x : Bx), h[j]? = some x → (∃ p ∈ l, p.1 = j) → ¬ x.rd k) → w'.heap[k]? = w.heap[k]?)
    (hf : ∀ p ∈ l, ∃ x, h[p.1]? = some x ∧ x.fp = x.rd) : Fits ft w0 h2 w' := by
  refine ⟨hk, fun j z hz => ?_, fun i j z y hz hy hij b hzb hyb => ?_⟩
  · obtain ⟨x, hx, hcase⟩ := hc j z hz
    rcases hcase with ⟨rfl, hn⟩ | ⟨_, _, p, hpl, _, rfl⟩
    · refine (H.all j z hx).to (fun b hzb => hb b ((H.all j z hx).lt hzb) fun i y hy hex => ?_) hs
      obtain ⟨p, hpl, rfl⟩ := hex
      obtain ⟨y', hy', hfy⟩ := hf p hpl
      rw [hy] at hy'
      obtain rfl := Option.some.inj hy'
      intro hyb
      exact H.ne p.1 j y z hy hx (hn p hpl) b (hfy ▸ hyb) hzb
    · exact hp p hpl
  · have fr : ∀ {u : Bx} {c : Nat}, u.fp c → u.rd c := fun {u c} hu => by
      obtain ⟨ub, uo, ut, uc, uk⟩ := u
      cases uk <;> first | exact hu | cases hu
    obtain ⟨x, hx, hcx⟩ := hc i z hz
    obtain ⟨u, hu, hcu⟩ := hc j y hy
    have hxb : x.fp b := by
      rcases hcx with ⟨rfl, _⟩ | ⟨h1, h2, _⟩
      · exact hzb
      · rcases h2 with h2 | h2
        · rw [h1, ← h2]
          exact fr hzb
        · have := fr hzb
          rw [h2] at this
          cases this
    have hub : u.rd b := by
      rcases hcu with ⟨rfl, _⟩ | ⟨_, h2, _⟩
      · exact hyb
      · rcases h2 with h2 | h2
        · rw [← h2]
          exact hyb
        · rw [h2] at hyb
          cases hyb
    exact H.ne i j x u hx hu hij b hxb hub
/-- What a call, or an operation with a contract, leaves. -/
theorem Fits.eff {ft : List Nat} {w0 w w2 : World} {h h2 h3 : List Bx} {pre post : List (Nat × (Env → Bx))} {new : List (Env → FV)} {en : Env} {k nx : Nat} {q : Sup} {v : Env → Value} {e : Ending} (hF : Fits ft w0 h w)
    (hp : ∀ p ∈ pre, ∃ x, h[p.1]? = some x ∧ x.rd = (p.2 en).rd ∧ x.fp = (p.2 en).fp) (hf : ∀ p ∈ post, ∃ x, h[p.1]? = some x ∧ x.fp = x.rd)
    (hc : ∀ (j : Nat) (z : Bx), h2[j]? = some z → ∃ x, h[j]? = some x ∧ ((z = x ∧ ∀ p ∈ post, p.1 ≠ j) ∨ (x.fp = x.rd ∧ (z.rd = x.rd ∨ z.rd = noS) ∧ ∃ p ∈ post, p.1 = j ∧ z = p.2 (envN new en nx q))))
    (hk : newOk new k nx = true) (G : GPost ft w0 k v pre post new en w e w2 q) (hn : putNews q (envN new en nx q) new nx h2 = some h3) : e = .returned (v (envN new en nx q)) ∧ Fits ft w0 h3 w2 ∧ Frame h w w2 ∧ Rel h h3 w := by
  obtain ⟨he, hps, hkeep, hsize, hframe, hnew⟩ := G
  have hkq : new = [] ∨ k = nx := by
    cases new with
    | nil => exact Or.inl rfl
    | cons p l => exact Or.inr (Nat.eq_of_beq_eq_true hk)
  have hb0 : ∀ k, k < w.heap.size → (∀ (j : Nat) (x : Bx), h[j]? = some x → (∃ p ∈ post, p.1 = j) → ¬ x.rd k) → w2.heap[k]? = w.heap[k]? := fun k hk hn => hframe k hk fun p hpp hpo => by
    obtain ⟨x, hx, hrd, _⟩ := hp p hpp
    rw [← hrd]
    obtain ⟨p', hp', he⟩ := List.mem_map.1 hpo
    exact hn p.1 x hx ⟨p', hp', he⟩
  have hfr : Frame h w w2 := fun k hk hn => hb0 k hk fun j x hx hex => by
    obtain ⟨p, hpl, rfl⟩ := hex
    obtain ⟨x', hx', hfx⟩ := hf p hpl
    rw [hx] at hx'
    obtain rfl := Option.some.inj hx'
    rw [← hfx]
    exact hn p.1 x hx
  have hrl : Rel h h2 w := fun j z b hz hzb => by
    obtain ⟨x, hx, hcx⟩ := hc j z hz
    rcases hcx with ⟨rfl, _⟩ | ⟨h1, h2, _⟩
    · exact Or.inr ⟨j, z, hx, hzb, fun h => h⟩
    · rcases h2 with h2 | h2
      · exact Or.inr ⟨j, x, hx, by rw [← h2]; exact hzb, fun _ => by rw [h1, ← h2]; exact hzb⟩
      · rw [h2] at hzb
        cases hzb
  rcases hkq with rfl | rfl
  · obtain rfl := Option.some.inj hn
    exact ⟨he, hF.turns hc hps hkeep hsize hb0 hf, hfr, hrl⟩
  · have hF2 := hF.turns hc hps hkeep hsize hb0 hf
    obtain ⟨hF3, hcase⟩ := Fits.puts new k h2 h3 hF2 hn (fun j p hj => by
      obtain ⟨n1, n2, n3⟩ := hnew j p hj
      refine FV.holds (fun b hb => ⟨?_, (n3 b hb).1⟩) n1 n2
      rcases (n3 b hb).2.1 with h | ⟨p', hp', hfp, _, _⟩
      · exact Or.inr (Nat.le_trans hF.keep.size h)
      · obtain ⟨x, hx, _, hxf⟩ := hp p' hp'
        have hx' := hF.all _ x hx
        rw [← hxf] at hfp
        obtain ⟨xb, xo, xt, xc, xk⟩ := x
        cases xk with
        | no => cases hfp
        | row => cases hfp
        | own =>
          obtain rfl := Option.some.inj hfp
          exact hx'.2.1
        | fact q' p'' => exact (hx'.2.1 b hfp).1
        | facts q' p'' => exact (hx'.2.1 b hfp).1) fun j p hj b hb => by
      obtain ⟨n1, n2, n3⟩ := hnew j p hj
      refine ⟨fun i y hy => ?_, (n3 b hb).2.2⟩
      rcases (n3 b hb).2.1 with h | ⟨p', hp', hfp, hmem, hno⟩
      · intro hyb
        obtain ⟨x, hx, hcx⟩ := hc i y hy
        rcases hcx with ⟨rfl, _⟩ | ⟨_, h2, _⟩
        · have := (hF.all i y hx).lt hyb
          omega
        · rcases h2 with h2 | h2
          · have := (hF.all i x hx).lt (h2 ▸ hyb)
            omega
          · rw [h2] at hyb
            cases hyb
      · obtain ⟨x0, hx0, _, hxf⟩ := hp p' hp'
        rw [← hxf] at hfp
        intro hyb
        obtain ⟨x, hx, hcx⟩ := hc i y hy
        by_cases hi : i = p'.1
        · rcases hcx with ⟨_, hall⟩ | ⟨_, _, p'', hp'', h5, rfl⟩
          · obtain ⟨p3, hp3, h6⟩ := List.mem_map.1 hmem
            exact hall p3 hp3 (h6.trans hi.symm)
          · have := hno p'' hp'' (h5.trans hi)
            rw [this] at hyb
            cases hyb
        · have hxb : x.rd b := by
            rcases hcx with ⟨rfl, _⟩ | ⟨_, h2, _⟩
            · exact hyb
            · rcases h2 with h2 | h2
              · rw [← h2]; exact hyb
              · rw [h2] at hyb
                cases hyb
          exact hF.ne p'.1 i x0 x hx0 hx (Ne.symm hi) b hfp hxb
    refine ⟨he, hF3, hfr, fun i z b hz hzb => ?_⟩
    rcases hcase i z hz with hz | rfl | ⟨j, p, hj, rfl⟩
    · exact hrl i z b hz hzb
    · cases hzb
    · obtain ⟨_, _, n3⟩ := hnew j p hj
      rcases (n3 b (by unfold factB at hzb; rw [FV.bx_rd] at hzb; exact hzb)).2.1 with h | ⟨p', hp', hfp, _, _⟩
      · exact Or.inl h
      · obtain ⟨x, hx, _, hxf⟩ := hp p' hp'
        rw [← hxf] at hfp
        refine Or.inr ⟨p'.1, x, hx, ?_, fun _ => hfp⟩
        obtain ⟨xb, xo, xt, xc, xk⟩ := x
        cases xk <;> first | exact hfp | cases hfp
/-- An operation, for all numbers at once. Φ: what is to be kept of them. -/
theorem exOp_sound {P : Program} {o : Oper} {hint : Option Hint} {n0 nx : Nat} {A : Nat → Prop} {β : Sup} {a : Act} {w w0 : World} {ft : List Nat} {K' : Act → World → Prop} {Q : Exit → Act → World → Prop} {Φ : Sup → List Bx → Value × List Bx → Prop}
    (hh : ∀ h, hint = some h → h.Ok P ft w0) (hA0 : ∀ i, i < n0 → A i) (hacc : ∀ i ∈ accOf hint, A i) (hnx : ¬ A nx) (hnxs : ∀ i, nx ≤ i → i < nx + takes o hint → ¬ A i)
    (hyp : ∀ E, Agr A β E → ∃ T h d, (knownOp T o = true → execOp a.eval o = execOp (evT T) o) ∧ Goods (exOp P E n0 nx o hint T h) d ∧ Fits ft w0 h w ∧ Φ E h d)
    (hK : ∀ A' β' v w', Took A β nx (takes o hint) A' β' → w.heap.size ≤ w'.heap.size → (makes o = true → (β' nx).1 = w.heap.size) → (∀ E, Agr A' β' E → ∃ h h', Φ E h (v, h') ∧ Fits ft w0 h' w' ∧ Frame h w w' ∧ Rel h h' w) → K' (a.put o.dst v) w') : o.wp P a w K' Q := by
  unfold Oper.wp
  have hk : ∀ {E T h d}, Goods (exOp P E n0 nx o hint T h) d → knownOp T o = true := fun {E T h d} g => by
    cases hb : knownOp T o with
    | true => rfl
    | false => simp only [exOp, hb] at g; exact g.no.elim
  have plain : ∀ (l : List (Nat × Nat × Nat)) (nw : Bool), takes o hint = (if nw then 1 else 0) → (makes o = true → nw = true) → (∀ E, Agr A β E → ∃ h d, Goods (srun P E nx (execOp a.eval o) nw ⟨h, l⟩ (fun x h' => match x with
      | .value v => some ([], v, h')
      | .skip => some ([], undef, h')
      | _ => none)) d ∧ Fits ft w0 h w ∧ Φ E h d) → o.upon P a K' Q ((execOp a.eval o).run P w) := by
    intro l nw ht hm hyp
    obtain ⟨x, w', A', β', r1, r2, r3, r4, r5⟩ := run_fam (K := fun _ => _) hnx hyp
    rw [r1]
    rw [← ht] at r2
    obtain ⟨h0, d0, h0', g0, _⟩ := r5 β' (Agr.refl _ _)
    cases x with
    | value v =>
      refine hK A' β' v w' r2 r3 (fun h => r4 (hm h)) fun E hE => ?_
      obtain ⟨h, d, h', g, f, fr, rl, hΦ⟩ := r5 E hE
      have := g.ret
      subst this
      exact ⟨h, h', hΦ, f, fr, rl⟩
    | skip =>
      refine hK A' β' undef w' r2 r3 (fun h => r4 (hm h)) fun E hE => ?_
      obtain ⟨h, d, h', g, f, fr, rl, hΦ⟩ := r5 E hE
      have := g.ret
      subst this
      exact ⟨h, h', hΦ, f, fr, rl⟩
    | _ => exact g0.no.elim
  cases hint with
  | none =>
    refine plain [] (makes o) (by unfold takes; cases makes o <;> rfl) (fun h => h) fun E hE => ?_
    obtain ⟨T, h, d, h1, h2, h3, h4⟩ := hyp E hE
    refine ⟨h, d, ?_, h3, h4⟩
    rw [h1 (hk h2)]
    simp only [exOp, hk h2] at h2
    exact h2
  | some hi =>
    have ho := hh hi rfl
    cases hi with
    | «at» l =>
      refine plain l (makes o) (by unfold takes; cases makes o <;> rfl) (fun h => h) fun E hE => ?_
      obtain ⟨T, h, d, h1, h2, h3, h4⟩ := hyp E hE
      refine ⟨h, d, ?_, h3, h4⟩
      rw [h1 (hk h2)]
      simp only [exOp, hk h2] at h2
      exact h2
    | rw v v' =>
      have hm : makes o = false := by
        obtain ⟨T, h, d, _, h2, _⟩ := hyp β (Agr.refl _ _)
        have := hk h2
        simp only [exOp, this] at h2
        exact h2.noMake.1
      have ht : takes o (some (.rw v v')) = 0 := by unfold takes; rw [hm]
      obtain ⟨x, w', A', β', r1, r2, r3, _, r5⟩ := run_fam (m := execOp a.eval o) (nw := false) (l := []) (w := w) (Φ := Φ) (K := fun E x h' => match x with
        | .value y => cl y (v (selE [] n0 E)) (some ([], v' (selE [] n0 E), h'))
        | _ => none) hnx (fun E hE => by
        obtain ⟨T, h, d, h1, h2, h3, h4⟩ := hyp E hE
        refine ⟨h, d, ?_, h3, h4⟩
        rw [h1 (hk h2)]
        simp only [exOp, hk h2] at h2
        exact h2.noMake.2)
      rw [r1]
      have hs : ∀ E, Agr A' β' E → selE [] n0 E = selE [] n0 β := fun E hE => selE_eq fun i hi => hi.elim (fun hi => (r2.agr hE) i (hA0 i hi)) fun hi => by cases hi
      obtain ⟨h0, d0, h0', g0, _⟩ := r5 β' (Agr.refl _ _)
      cases x with
      | value y =>
        have hy : y = v' (selE [] n0 β) := by rw [← hs β' (Agr.refl _ _)]; exact g0.cl.1.trans (ho _)
        subst hy
        refine hK A' β' _ w' (by rw [ht]; exact r2) r3 (fun h => by rw [hm] at h; cases h) fun E hE => ?_
        obtain ⟨h, d, h', g, f, fr, rl, hΦ⟩ := r5 E hE
        have := g.cl.2.ret
        rw [hs E hE] at this
        subst this
        exact ⟨h, h', hΦ, f, fr, rl⟩
      | _ => exact g0.no.elim
    | call f args v =>
      have hm : makes o = false := by
        obtain ⟨T, h, d, _, h2, _⟩ := hyp β (Agr.refl _ _)
        have := hk h2
        simp only [exOp, this] at h2
        exact h2.noMake.1
      have ht : takes o (some (.call f args v)) = 0 := by unfold takes; rw [hm]
      obtain ⟨x, w', A', β', r1, r2, r3, _, r5⟩ := run_fam (m := execOp a.eval o) (nw := false) (l := []) (w := w) (Φ := Φ) (K := fun E x h' => match x with
        | .enter g bs => match Nat.beq g f with
          | true => cl (.tuple bs) (.tuple (args (selE [] n0 E)).toArray) (some ([], v (selE [] n0 E), h'))
          | false => none
        | _ => none) hnx (fun E hE => by
        obtain ⟨T, h, d, h1, h2, h3, h4⟩ := hyp E hE
        refine ⟨h, d, ?_, h3, h4⟩
        rw [h1 (hk h2)]
        simp only [exOp, hk h2] at h2
        exact h2.noMake.2)
      rw [r1]
      have hs : ∀ E, Agr A' β' E → selE [] n0 E = selE [] n0 β := fun E hE => selE_eq fun i hi => hi.elim (fun hi => (r2.agr hE) i (hA0 i hi)) fun hi => by cases hi
      obtain ⟨h0, d0, h0', g0, f0, _⟩ := r5 β' (Agr.refl _ _)
      cases x with
      | enter g bs =>
        cases hb : Nat.beq g f with
        | false => simp only [hb] at g0; exact g0.no.elim
        | true =>
          simp only [hb] at g0
          have := Nat.eq_of_beq_eq_true hb
          subst this
          have he : bs = (args (selE [] n0 β)).toArray := by
            have := g0.cl.1
            rw [hs β' (Agr.refl _ _)] at this
            injection this
          subst he
          refine (ho (selE [] n0 β) w' f0.keep).mono ?_
          rintro e w2 ⟨rfl, hb2⟩
          refine hK A' β' _ w2 (by rw [ht]; exact r2) (Nat.le_trans r3 hb2.size) (fun h => by rw [hm] at h; cases h) fun E hE => ?_
          obtain ⟨h, d, h', g, f, fr, rl, hΦ⟩ := r5 E hE
          simp only [hb] at g
          have := g.cl.2.ret
          rw [hs E hE] at this
          subst this
          exact ⟨h, h', hΦ, f.below hb2, fun k hk hn => (hb2.block k (Nat.lt_of_lt_of_le hk r3)).trans (fr k hk hn), rl⟩
      | _ => exact g0.no.elim
    | callg f args v pre post k new =>
      have hsE : ∀ E, Agr A β E → selE (pre.map (·.1)) n0 E = selE (pre.map (·.1)) n0 β := fun E hE => selE_eq fun i hi => hi.elim (fun hi => hE i (hA0 i hi)) fun hi => hE i (hacc i hi)
      have hget : ∀ E, Agr A β E → ∃ h d bs, Fits ft w0 h w ∧ Φ E h d ∧ makes o = false ∧ (∀ W, (execOp a.eval o).run P W = .ok (.enter f bs) W) ∧ newOk new k nx = true ∧ bs = (args (selE (pre.map (·.1)) n0 β)).toArray ∧
          Goods (clPre h (selE (pre.map (·.1)) n0 β) pre (setAll (envN new (selE (pre.map (·.1)) n0 β) nx E) h post (callEnd v new (selE (pre.map (·.1)) n0 β) nx E))) d := fun E hE => by
        obtain ⟨T, h, d, h1, h2, h3, h4⟩ := hyp E hE
        have hkn := hk h2
        simp only [exOp, hkn] at h2
        obtain ⟨hm, h2⟩ := h2.noMake
        rw [← h1 hkn] at h2
        obtain ⟨x, hx, h5⟩ := srun_quiet _ h2
        cases x with
        | enter g bs =>
          cases hb : Nat.beq g f && newOk new k nx with
          | false => simp only [hb] at h5; exact h5.no.elim
          | true =>
            simp only [hb] at h5
            rw [Bool.and_eq_true] at hb
            have := Nat.eq_of_beq_eq_true hb.1
            subst this
            obtain ⟨e1, h6⟩ := h5.cl
            rw [hsE E hE] at e1 h6
            injection e1 with e1
            exact ⟨h, d, bs, h3, h4, hm, hx, hb.2, e1, h6⟩
        | _ => exact h5.no.elim
      obtain ⟨h0, d0, bs, f0, _, hm, hr, hkn, rfl, g0⟩ := hget β (Agr.refl _ _)
      rw [hr w]
      generalize hen : selE (pre.map (·.1)) n0 β = en at *
      obtain ⟨_, hp0⟩ := clPre_sound f0 pre _ g0
      refine (ho en w f0.keep ⟨fun p hp => (hp0 p hp).1, fun hn => f0.part hn hp0⟩).mono ?_
      rintro e w2 ⟨q, hq⟩
      have turn : ∀ E, Agr A β E → (∀ i, nx ≤ i → i < nx + new.length → E i = q i) → ∃ h h3, Φ E h (v (envN new en nx q), h3) ∧ Fits ft w0 h3 w2 ∧ Frame h w w2 ∧ Rel h h3 w := fun E hE hEn => by
        have hEq := envN_eq new en nx hEn
        obtain ⟨h, d, bs', hF, hΦ, _, _, _, _, g⟩ := hget E hE
        obtain ⟨g, hp⟩ := clPre_sound hF pre _ g
        obtain ⟨h2, g, hf, hc⟩ := setAll_sound post h g
        rw [hEq] at hc
        obtain ⟨h3, hn3, hd⟩ := callEnd_sound g
        rw [hEq, putNews_eq new nx h2 hEn] at hn3
        obtain ⟨_, hF3, hfr, hrl⟩ := hF.eff (fun p hpp => (hp p hpp).2) hf hc hkn hq hn3
        rw [hEq] at hd
        subst hd
        exact ⟨h, h3, hΦ, hF3, hfr, hrl⟩
      have hret : e = .returned (v (envN new en nx q)) := by
        cases new with
        | nil => exact hq.ret
        | cons p l =>
          have hkn' : k = nx := Nat.eq_of_beq_eq_true hkn
          have := hq.ret
          rw [hkn'] at this
          exact this
      subst hret
      have hsize := hq.size
      have ht : takes o (some (.callg f args v pre post k new)) = new.length := by unfold takes; rw [hm]
      rw [ht] at hnxs
      refine hK _ _ _ w2 (by rw [ht]; exact Took.many hnxs q) hsize (fun h => by rw [hm] at h; cases h) fun E hE => ?_
      refine turn E ((Took.many hnxs q).agr hE) fun i h1 h2 => ?_
      rw [hE i (Or.inr ⟨h1, h2⟩)]
      exact if_pos ⟨h1, h2⟩
    | opc op xs v pre post k new =>
      have hsE : ∀ E, Agr A β E → selE (pre.map (·.1)) n0 E = selE (pre.map (·.1)) n0 β := fun E hE => selE_eq fun i hi => hi.elim (fun hi => hE i (hA0 i hi)) fun hi => hE i (hacc i hi)
      have hget : ∀ E, Agr A β E → ∃ T h d, Fits ft w0 h w ∧ Φ E h d ∧ makes o = false ∧ execOp a.eval o = execOp (evT T) o ∧ o.op = op ∧ op.operands.toList.map (evT T) = xs (selE (pre.map (·.1)) n0 β) ∧ newOk new k nx = true ∧
          Goods (clPre h (selE (pre.map (·.1)) n0 β) pre (setAll (envN new (selE (pre.map (·.1)) n0 β) nx E) h post (callEnd v new (selE (pre.map (·.1)) n0 β) nx E))) d := fun E hE => by
        obtain ⟨T, h, d, h1, h2, h3, h4⟩ := hyp E hE
        have hkn := hk h2
        simp only [exOp, hkn] at h2
        obtain ⟨hm, h5⟩ := h2.noMake
        cases hb : newOk new k nx with
        | false => simp only [hb] at h5; exact h5.no.elim
        | true =>
          simp only [hb] at h5
          obtain ⟨e1, h6⟩ := h5.clc
          obtain ⟨e2, h7⟩ := h6.cl
          rw [hsE E hE] at e2 h7
          injection e1 with e1
          injection e2 with e2
          exact ⟨T, h, d, h3, h4, hm, h1 hkn, e1, by simpa using e2, rfl, h7⟩
      obtain ⟨T0, h0, d0, f0, _, hm, hex, hop, hxs, hkn, g0⟩ := hget β (Agr.refl _ _)
      generalize hen : selE (pre.map (·.1)) n0 β = en at *
      obtain ⟨_, hp0⟩ := clPre_sound f0 pre _ g0
      obtain ⟨x, q, w2, hr, hq⟩ := ho en w (evT T0) o hop hxs f0.keep ⟨fun p hp => (hp0 p hp).1, fun hn => f0.part hn hp0⟩
      rw [hex, hr]
      have turn : ∀ E, Agr A β E → (∀ i, nx ≤ i → i < nx + new.length → E i = q i) → ∃ h h3, Φ E h (v (envN new en nx q), h3) ∧ Fits ft w0 h3 w2 ∧ Frame h w w2 ∧ Rel h h3 w := fun E hE hEn => by
        have hEq := envN_eq new en nx hEn
        obtain ⟨_, h, d, hF, hΦ, _, _, _, _, _, g⟩ := hget E hE
        obtain ⟨g, hp⟩ := clPre_sound hF pre _ g
        obtain ⟨h2, g, hf, hc⟩ := setAll_sound post h g
        rw [hEq] at hc
        obtain ⟨h3, hn3, hd⟩ := callEnd_sound g
        rw [hEq, putNews_eq new nx h2 hEn] at hn3
        obtain ⟨_, hF3, hfr, hrl⟩ := hF.eff (fun p hpp => (hp p hpp).2) hf hc hkn hq hn3
        rw [hEq] at hd
        subst hd
        exact ⟨h, h3, hΦ, hF3, hfr, hrl⟩
      have hret : x = v (envN new en nx q) := by
        cases new with
        | nil =>
          have := hq.ret
          injection this
        | cons p l =>
          have hkn' : k = nx := Nat.eq_of_beq_eq_true hkn
          have := hq.ret
          rw [hkn'] at this
          injection this
      subst hret
      have hsize := hq.size
      have ht : takes o (some (.opc op xs v pre post k new)) = new.length := by unfold takes; rw [hm]
      rw [ht] at hnxs
      refine hK _ _ _ w2 (by rw [ht]; exact Took.many hnxs q) hsize (fun h => by rw [hm] at h; cases h) fun E hE => ?_
      refine turn E ((Took.many hnxs q).agr hE) fun i h1 h2 => ?_
      rw [hE i (Or.inr ⟨h1, h2⟩)]
      exact if_pos ⟨h1, h2⟩
    | sto op xs pre post =>
      have hsE : ∀ E, Agr A β E → selE (pre.map (·.1)) n0 E = selE (pre.map (·.1)) n0 β := fun E hE => selE_eq fun i hi => hi.elim (fun hi => hE i (hA0 i hi)) fun hi => hE i (hacc i hi)
      have hget : ∀ E, Agr A β E → ∃ T h d, Fits ft w0 h w ∧ Φ E h d ∧ makes o = false ∧ execOp a.eval o = execOp (evT T) o ∧ o.op = op ∧ op.operands.toList.map (evT T) = xs (selE (pre.map (·.1)) n0 β) ∧
          Goods (clPre h (selE (pre.map (·.1)) n0 β) pre (setAll (envN ([] : List (Env → FV)) (selE (pre.map (·.1)) n0 β) nx E) h post (callEnd (fun _ => undef) [] (selE (pre.map (·.1)) n0 β) nx E))) d := fun E hE => by
        obtain ⟨T, h, d, h1, h2, h3, h4⟩ := hyp E hE
        have hkn := hk h2
        simp only [exOp, hkn] at h2
        obtain ⟨hm, h5⟩ := h2.noMake
        obtain ⟨e1, h6⟩ := h5.clc
        obtain ⟨e2, h7⟩ := h6.cl
        rw [hsE E hE] at e2 h7
        injection e1 with e1
        injection e2 with e2
        exact ⟨T, h, d, h3, h4, hm, h1 hkn, e1, by simpa using e2, h7⟩
      obtain ⟨T0, h0, d0, f0, _, hm, hex, hop, hxs, g0⟩ := hget β (Agr.refl _ _)
      generalize hen : selE (pre.map (·.1)) n0 β = en at *
      obtain ⟨_, hp0⟩ := clPre_sound f0 pre _ g0
      obtain ⟨q, w2, hr, hq⟩ := ho en w (evT T0) o hop hxs f0.keep ⟨fun p hp => (hp0 p hp).1, fun hn => f0.part hn hp0⟩
      rw [hex, hr]
      have turn : ∀ E, Agr A β E → (∀ i, nx ≤ i → i < nx + 0 → E i = q i) → ∃ h h3, Φ E h (undef, h3) ∧ Fits ft w0 h3 w2 ∧ Frame h w w2 ∧ Rel h h3 w := fun E hE hEn => by
        have hEq := envN_eq ([] : List (Env → FV)) en nx hEn
        obtain ⟨_, h, d, hF, hΦ, _, _, _, _, g⟩ := hget E hE
        obtain ⟨g, hp⟩ := clPre_sound hF pre _ g
        obtain ⟨h2, g, hf, hc⟩ := setAll_sound post h g
        rw [hEq] at hc
        obtain ⟨h3, hn3, hd⟩ := callEnd_sound g
        rw [hEq, putNews_eq [] nx h2 hEn] at hn3
        obtain ⟨_, hF3, hfr, hrl⟩ := hF.eff (nx := nx) (k := 0) (fun p hpp => (hp p hpp).2) hf hc rfl hq hn3
        subst hd
        exact ⟨h, h3, hΦ, hF3, hfr, hrl⟩
      have hsize := hq.size
      have ht : takes o (some (.sto op xs pre post)) = 0 := by unfold takes; rw [hm]
      rw [ht] at hnxs
      refine hK _ _ _ w2 (by rw [ht]; exact Took.many hnxs q) hsize (fun h => by rw [hm] at h; cases h) fun E hE => ?_
      refine turn E ((Took.many hnxs q).agr hE) fun i h1 h2 => ?_
      rw [hE i (Or.inr ⟨h1, h2⟩)]
      exact if_pos ⟨h1, h2⟩
    | own i t cs pr =>
      have hm : makes o = false := by
        obtain ⟨T, h, d, _, h2, _⟩ := hyp β (Agr.refl _ _)
        have := hk h2
        simp only [exOp, this] at h2
        exact h2.noMake.1
      have ht : takes o (some (.own i t cs pr)) = 0 := by unfold takes; rw [hm]
      obtain ⟨x, w', A', β', r1, r2, r3, _, r5⟩ := run_fam (m := execOp a.eval o) (nw := false) (l := []) (w := w) (ft := ft) (w0 := w0)
        (Φ := fun E h2 d => ∃ h x b cs', Φ E h d ∧ h[i]? = some x ∧ x.rd = oneS b ∧ x.fp = oneS b ∧ h2 = h.set i ⟨b, 0, t, cs', .own⟩) (K := fun _ x h' => match x with
        | .value v => some ([], v, h')
        | .skip => some ([], undef, h')
        | _ => none) hnx (fun E hE => by
        obtain ⟨T, h, d, h1, h2, h3, h4⟩ := hyp E hE
        have hkn := hk h2
        simp only [exOp, hkn] at h2
        obtain ⟨h5, h6⟩ := clPre_sound h3 _ _ h2.noMake.2
        obtain ⟨g1, x, g2, g3, g4⟩ := h6 _ (List.mem_singleton.2 rfl)
        obtain ⟨_, g6, g7, _⟩ := g1
        obtain ⟨k1, k2⟩ := ho _ _ g7
        have e1 : (factE i pr (selE [i] n0 E)).rd = oneS ((selE [i] n0 E).b i) := by
          show (fun c => ((selE [i] n0 E).f i).map (·.block) = some c) = _
          rw [k1]
          rfl
        have e2 : (factE i pr (selE [i] n0 E)).fp = oneS ((selE [i] n0 E).b i) := e1
        rw [e1] at g3
        rw [e2] at g4
        refine ⟨_, d, ?_, h3.turn g2 (g4.trans g3.symm) (y := ⟨(selE [i] n0 E).b i, 0, t, cs (selE [i] n0 E), .own⟩) g3.symm ⟨rfl, (g6 _ k1).1, k2⟩ h3.keep (Nat.le_refl _) (fun _ _ _ => rfl), h, x, _, _, h4, g2, g3, g4, rfl⟩
        rw [h1 hkn]
        exact h5)
      rw [r1]
      have back : ∀ {h h2 h' : List Bx} {x : Bx} {b : Nat} {cs' : List Value}, h[i]? = some x → x.rd = oneS b → x.fp = oneS b → h2 = h.set i ⟨b, 0, t, cs', .own⟩ → Frame h2 w w' → Rel h2 h' w → Frame h w w' ∧ Rel h h' w := fun {h h2 h' x b cs'} e1 e2 e3 e4 fr rl => by
        subst e4
        refine ⟨fun k hk hn => fr k hk fun j y hy => ?_, fun j z c hz hc => ?_⟩
        · rcases set_get hy with ⟨_, rfl⟩ | ⟨_, hy⟩
          · have := hn i x e1
            rw [e3] at this
            exact this
          · exact hn j y hy
        · rcases rl j z c hz hc with h | ⟨j', y, hy, h1, h2⟩
          · exact Or.inl h
          · rcases set_get hy with ⟨_, rfl⟩ | ⟨_, hy⟩
            · exact Or.inr ⟨i, x, e1, by rw [e2]; exact h1, fun h => by rw [e3]; exact h2 h⟩
            · exact Or.inr ⟨j', y, hy, h1, h2⟩
      obtain ⟨h0, d0, h0', g0, _⟩ := r5 β' (Agr.refl _ _)
      cases x with
      | value v =>
        refine hK A' β' v w' (by rw [ht]; exact r2) r3 (fun h => by rw [hm] at h; cases h) fun E hE => ?_
        obtain ⟨h2, d, h', g, f, fr, rl, h, x, b, cs', hΦ, e1, e2, e3, e4⟩ := r5 E hE
        have := g.ret
        subst this
        obtain ⟨q1, q2⟩ := back e1 e2 e3 e4 fr rl
        exact ⟨h, h', hΦ, f, q1, q2⟩
      | skip =>
        refine hK A' β' undef w' (by rw [ht]; exact r2) r3 (fun h => by rw [hm] at h; cases h) fun E hE => ?_
        obtain ⟨h2, d, h', g, f, fr, rl, h, x, b, cs', hΦ, e1, e2, e3, e4⟩ := r5 E hE
        have := g.ret
        subst this
        obtain ⟨q1, q2⟩ := back e1 e2 e3 e4 fr rl
        exact ⟨h, h', hΦ, f, q1, q2⟩
      | _ => exact g0.no.elim
    | ix t x i v =>
      have hm : makes o = false := by
        obtain ⟨T, h, d, _, h2, _⟩ := hyp β (Agr.refl _ _)
        have := hk h2
        simp only [exOp, this] at h2
        exact h2.noMake.1
      have ht : takes o (some (.ix t x i v)) = 0 := by unfold takes; rw [hm]
      have hs : ∀ E, Agr A β E → selE [] n0 E = selE [] n0 β := fun E hE => selE_eq fun i hi => hi.elim (fun hi => hE i (hA0 i hi)) fun hi => by cases hi
      obtain ⟨dst, op, type, pos, after, guard⟩ := o
      have hget : ∀ E T h d, Goods (exOp P E n0 nx ⟨dst, op, type, pos, after, guard⟩ (some (.ix t x i v)) T h) d → ∃ x' i', op = .indexAddr t x' i' ∧ evT T x' = x (selE [] n0 E) ∧ evT T i' = i (selE [] n0 E) ∧ d = (v (selE [] n0 E), h) := fun E T h d g => by
        have := hk g
        simp only [exOp, this] at g
        have g1 := g.noMake.2
        clear g
        cases op with
        | indexAddr t' x' i' =>
          simp only at g1
          cases hb : Nat.beq t' t with
          | false => simp only [hb] at g1; exact g1.no.elim
          | true =>
            simp only [hb] at g1
            have := Nat.eq_of_beq_eq_true hb
            subst this
            exact ⟨x', i', rfl, g1.cl.1, g1.cl.2.cl.1, g1.cl.2.cl.2.ret.symm⟩
        | _ => exact g1.no.elim
      obtain ⟨T, h, d, h1, h2, h3, h4⟩ := hyp β (Agr.refl _ _)
      obtain ⟨x', i', rfl, e1, e2, _⟩ := hget β T h d h2
      have hr : (execOp a.eval ⟨dst, .indexAddr t x' i', type, pos, after, guard⟩).run P w = .ok (.value (v (selE [] n0 β))) w := by
        rw [h1 (hk h2)]
        simp only [execOp, e1, e2, Sem.run_bind, ho (selE [] n0 β) w, Result.andThen_ok, Sem.run_pure]
      rw [hr]
      refine hK A β _ w (by rw [ht]; exact Took.none A β nx) (Nat.le_refl _) (fun h => by rw [hm] at h; cases h) fun E hE => ?_
      obtain ⟨T2, h2', d2, _, g2, f2, hΦ⟩ := hyp E hE
      obtain ⟨_, _, _, _, _, hd⟩ := hget E T2 h2' d2 g2
      subst hd
      rw [hs E hE] at hΦ
      exact ⟨h2', h2', hΦ, f2, fun _ _ _ => rfl, Rel.refl _ _⟩
end Go.Proofs.Ytbhnjaajkolklaa
