/- A function's text, carried out by the kernel: a region that draws its order: once, for all orders. -/
import Derived.Test.YtbhnjaajkolklaaGreatEy
import Derived.OrdersHeld
import Derived.StillTail
set_option linter.all false
namespace Go.Proofs.YtbhnjaajkolklaaGreat
open Go.ChangeShapes Go.WideShapes Go.ChangeAt Go.RowKit Go.Deep

def inL (l : List Nat) (i : Nat) : Bool := l.any (Nat.beq i)
theorem inL_iff {l : List Nat} {i : Nat} : inL l i = true ↔ i ∈ l := by
  unfold inL
  rw [List.any_eq_true]
  exact ⟨fun ⟨j, hj, h⟩ => by rw [Nat.eq_of_beq_eq_true h]; exact hj, fun h => ⟨i, h, Nat.beq_refl i⟩⟩
def onlyG (ids : List Nat) : Nat → List Bx → List Bx
  | _, [] => []
  | i, x :: l => (match inL ids i with
    | true => x
    | false => noBx) :: onlyG ids (i + 1) l
theorem onlyG_get {ids : List Nat} : ∀ {h : List Bx} {k i : Nat} {z : Bx}, (onlyG ids k h)[i]? = some z → (k + i ∈ ids ∧ h[i]? = some z) ∨ (k + i ∉ ids ∧ z = noBx)
  | [], k, i, z, hz => by simp [onlyG] at hz
  | x :: l, k, 0, z, hz => by
    simp only [onlyG, List.getElem?_cons_zero, Option.some.injEq] at hz
    cases hb : inL ids k with
    | true =>
      rw [hb] at hz
      exact Or.inl ⟨inL_iff.1 hb, by simpa using hz⟩
    | false =>
      rw [hb] at hz
      exact Or.inr ⟨(fun h => by rw [Nat.add_zero] at h; rw [inL_iff.2 h] at hb; cases hb), hz.symm⟩
  | x :: l, k, i + 1, z, hz => by
    simp only [onlyG, List.getElem?_cons_succ] at hz
    have := onlyG_get hz
    rw [show k + 1 + i = k + (i + 1) by omega] at this
    simpa using this
def mergeG (ids : List Nat) : Nat → List Bx → List Bx → List Bx
  | i, x :: l, y :: l' => (match inL ids i with
    | true => y
    | false => x) :: mergeG ids (i + 1) l l'
  | _, _, _ => []
theorem mergeG_get {ids : List Nat} : ∀ {h h' : List Bx} {k i : Nat}, h.length = h'.length → (mergeG ids k h h')[i]? = if k + i ∈ ids then h'[i]? else h[i]?
  | [], [], k, i, _ => by simp [mergeG]
  | x :: l, y :: l', k, 0, _ => by
    simp only [mergeG, List.getElem?_cons_zero, Nat.add_zero]
    cases hb : inL ids k with
    | true => rw [if_pos (inL_iff.1 hb)]
    | false => rw [if_neg fun h => by rw [inL_iff.2 h] at hb; cases hb]
  | x :: l, y :: l', k, i + 1, hl => by
    simp only [mergeG, List.getElem?_cons_succ]
    rw [mergeG_get (by simpa using hl), show k + 1 + i = k + (i + 1) by omega]
  | [], _ :: _, _, _, hl => by simp at hl
  | _ :: _, [], _, _, hl => by simp at hl
/-- What an operation of a region waits for. -/
def dWaits (ops : Array Oper) (i : Nat) : List Nat := match ops[i]? with
  | some o => (o.after.toList.filter (fun e => Region.binds .any e)).map (·.on)
  | none => []
def Down (ops : Array Oper) (D : Nat → Bool) : Prop := ∀ i, D i = true → ∀ k ∈ dWaits ops i, D k = true
/-- Whatever is done when all that i waits for is done. -/
def Bef (ops : Array Oper) (i k : Nat) : Prop := ∀ D : Nat → Bool, Down ops D → (∀ j ∈ dWaits ops i, D j = true) → D k = true
/-- What comes ahead of an operation, as bits. -/
def maskD (acc : List Nat) (m : Nat) : List Edge → Nat
  | [] => m
  | e :: l => match Region.binds .any e with
    | true => maskD acc (m ||| 2 ^ e.on ||| acc.getD e.on 0) l
    | false => maskD acc m l
def befD (acc : List Nat) : List Oper → List Nat
  | [] => acc
  | o :: l => befD (acc ++ [maskD acc 0 o.after.toList]) l
theorem maskD_bit {acc : List Nat} {k : Nat} : ∀ (l : List Edge) (m : Nat), (maskD acc m l).testBit k = true → m.testBit k = true ∨ ∃ e ∈ l, Region.binds .any e = true ∧ (e.on = k ∨ (acc.getD e.on 0).testBit k = true)
  | [], m, h => Or.inl h
  | e :: l, m, h => by
    simp only [maskD] at h
    cases hb : Region.binds .any e with
    | false =>
      simp only [hb] at h
      rcases maskD_bit l m h with h | ⟨e', he, h1, h2⟩
      · exact Or.inl h
      · exact Or.inr ⟨e', List.mem_cons_of_mem _ he, h1, h2⟩
    | true =>
      simp only [hb] at h
      rcases maskD_bit l _ h with h | ⟨e', he, h1, h2⟩
      · rw [Nat.testBit_or, Nat.testBit_or, Bool.or_eq_true, Bool.or_eq_true] at h
        rcases h with (h | h) | h
        · exact Or.inl h
        · refine Or.inr ⟨e, List.mem_cons_self .., hb, Or.inl ?_⟩
          rw [Nat.testBit_two_pow] at h
          simpa using h
        · exact Or.inr ⟨e, List.mem_cons_self .., hb, Or.inr h⟩
      · exact Or.inr ⟨e', List.mem_cons_of_mem _ he, h1, h2⟩
theorem befD_bit {ops : Array Oper} : ∀ (l : List Oper) (acc : List Nat), (∀ j, l[j]? = ops[acc.length + j]?) → (∀ i k, (acc.getD i 0).testBit k = true → Bef ops i k) → ∀ i k, ((befD acc l).getD i 0).testBit k = true → Bef ops i k
  | [], acc, _, h, i, k, hb => h i k hb
  | o :: l, acc, hl, h, i, k, hb => by
    simp only [befD] at hb
    refine befD_bit l _ (fun j => ?_) (fun i k hik => ?_) i k hb
    · have := hl (j + 1)
      simp only [List.getElem?_cons_succ] at this
      rw [this]
      simp only [List.length_append, List.length_singleton]
      congr 1
      omega
    · rw [List.getD_eq_getElem?_getD, List.getElem?_append] at hik
      split at hik
      · rename_i hlt
        exact h i k (by rw [List.getD_eq_getElem?_getD]; exact hik)
      · rename_i hge
        by_cases hi : i = acc.length
        · subst hi
          rw [Nat.sub_self] at hik
          simp only [List.getElem?_cons_zero, Option.getD_some] at hik
          rcases maskD_bit _ _ hik with h0 | ⟨e, he, hb1, hb2⟩
          · simp at h0
          · intro D hd hw
            have ho : ops[acc.length]? = some o := by
              have := hl 0
              simpa using this.symm
            have hmem : e.on ∈ dWaits ops acc.length := by
              unfold dWaits
              rw [ho]
              exact List.mem_map.2 ⟨e, List.mem_filter.2 ⟨he, hb1⟩, rfl⟩
            rcases hb2 with rfl | hb2
            · exact hw _ hmem
            · exact h e.on k hb2 D hd (hd _ (hw _ hmem))
        · have : i - acc.length = (i - acc.length - 1) + 1 := by omega
          rw [this] at hik
          simp at hik
theorem bef_of {ops : Array Oper} {i k : Nat} (h : ((befD [] ops.toList).getD i 0).testBit k = true) : Bef ops i k :=
  befD_bit ops.toList [] (fun j => by simp) (fun i k h => by simp at h) i k h
def dstOf (ops : Array Oper) (j : Nat) : Option Tmp := (ops[j]?).bind (·.dst)
def opD (ops : Array Oper) (j : Nat) : Oper := (ops[j]?).getD ⟨none, .move (.const undef), 0, "", #[], none⟩
section
variable (hs : List (Nat × Hint)) (ops : Array Oper) (nx0 : Nat)
def takD (j : Nat) : Nat := takes (opD ops j) (hintAt hs j)
/-- The number that operation j takes. -/
def nxD : Nat → Nat
  | 0 => nx0
  | j + 1 => nxD j + takD hs ops j
def wrsD (j : Nat) : List Nat := match hintAt hs j with
  | some (.at l) => match (opD ops j).op with
    | .load _ _ => []
    | _ => l.map (·.1)
  | some (.callg _ _ _ _ post _ _) => post.map (·.1)
  | some (.opc _ _ _ _ post _ _) => post.map (·.1)
  | some (.sto _ _ _ post) => post.map (·.1)
  | some (.own i _ _ _) => [i]
  | _ => []
def nwD (j : Nat) : List Nat := List.range' (nxD hs ops nx0 j) (takD hs ops j)
def acD (j : Nat) : List Nat := accOf (hintAt hs j) ++ wrsD hs ops j
def WD (j : Nat) : List Nat := wrsD hs ops j ++ nwD hs ops nx0 j
def TD (j : Nat) : List Nat := acD hs ops j ++ nwD hs ops nx0 j
def drawOkM (M : List Nat) : Bool :=
  (List.range ops.size).all fun i =>
    (dWaits ops i).all (Nat.blt · i) &&
    ((List.range ops.size).all fun k => match dstOf ops k with
      | some s => (!((opD ops i).looksAt ops).contains s || ((Nat.blt k i && (M.getD i 0).testBit k) || (Nat.blt i k && (M.getD k 0).testBit i))) && (Nat.beq k i || dstOf ops i != some s)
      | none => true) &&
    ((acD hs ops i).all fun p => Nat.blt p nx0 || (List.range i).any fun m => inL (nwD hs ops nx0 m) p) &&
    ((List.range i).all fun k => (TD hs ops nx0 i).all fun p => !inL (TD hs ops nx0 k) p || !(inL (WD hs ops nx0 i) p || inL (WD hs ops nx0 k) p) || (M.getD i 0).testBit k)
def drawOk : Bool := drawOkM hs ops nx0 (befD [] ops.toList)
structure DrawSpec : Prop where
  back : ∀ i k, i < ops.size → k ∈ dWaits ops i → k < i
  look : ∀ i k s, i < ops.size → k < ops.size → dstOf ops k = some s → s ∈ (opD ops i).looksAt ops → (k < i ∧ Bef ops i k) ∨ (i < k ∧ Bef ops k i)
  uniq : ∀ i k s, i < ops.size → k < ops.size → dstOf ops k = some s → dstOf ops i = some s → k = i
  acc : ∀ i p, i < ops.size → p ∈ acD hs ops i → p < nx0 ∨ ∃ m, m < i ∧ p ∈ nwD hs ops nx0 m
  conf : ∀ i k p, i < ops.size → k < i → p ∈ TD hs ops nx0 i → p ∈ TD hs ops nx0 k → (p ∈ WD hs ops nx0 i ∨ p ∈ WD hs ops nx0 k) → Bef ops i k
theorem drawOk_spec (h : drawOk hs ops nx0 = true) : DrawSpec hs ops nx0 := by
  have H : ∀ i, i < ops.size → _ := fun i hi => by
    have := List.all_eq_true.1 h i (List.mem_range.2 hi)
    simp only [Bool.and_eq_true] at this
    exact this
  refine ⟨fun i k hi hk => ?_, fun i k s hi hk hs' hm => ?_, fun i k s hi hk hs' hs2 => ?_, fun i p hi hp => ?_, fun i k p hi hk hp hp2 hw => ?_⟩
  · have := List.all_eq_true.1 (H i hi).1.1.1 k hk
    simpa [Nat.blt_eq] using this
  · have := List.all_eq_true.1 (H i hi).1.1.2 k (List.mem_range.2 hk)
    simp only [hs', Bool.and_eq_true, Bool.or_eq_true, Bool.not_eq_true', List.contains_eq_mem, decide_eq_false_iff_not] at this
    have := this.1.resolve_left fun h => h hm
    exact this.imp (fun h => ⟨by simpa [Nat.blt_eq] using h.1, bef_of h.2⟩) fun h => ⟨by simpa [Nat.blt_eq] using h.1, bef_of h.2⟩
  · have := List.all_eq_true.1 (H i hi).1.1.2 k (List.mem_range.2 hk)
    simp only [hs', Bool.and_eq_true, Bool.or_eq_true, bne_iff_ne, ne_eq] at this
    exact Nat.eq_of_beq_eq_true (this.2.resolve_right fun h => h hs2)
  · have := List.all_eq_true.1 (H i hi).1.2 p hp
    rw [Bool.or_eq_true] at this
    refine this.imp (fun h => by simpa [Nat.blt_eq] using h) fun h => ?_
    obtain ⟨m, hm, h⟩ := List.any_eq_true.1 h
    exact ⟨m, List.mem_range.1 hm, inL_iff.1 h⟩
  · have := List.all_eq_true.1 (H i hi).2 k (List.mem_range.2 hk)
    have := List.all_eq_true.1 this p hp
    simp only [Bool.or_eq_true, Bool.not_eq_true', inL_iff.2 hp2] at this
    rcases this with (h | h) | h
    · cases h
    · rw [Bool.or_eq_false_iff] at h
      rcases hw with hw | hw
      · rw [inL_iff.2 hw] at h
        cases h.1
      · rw [inL_iff.2 hw] at h
        cases h.2
    · exact bef_of h
end
/-- What was not to turn has not. -/
def clSame {ρ : Type} (h h' : List Bx) (W : List Nat) : List Nat → Cl ρ → Cl ρ
  | [], r => r
  | i :: l, r => match inL W i with
    | true => clSame h h' W l r
    | false => match h'[i]?, h[i]? with
      | some y, some x => clBx y x (clSame h h' W l r)
      | _, _ => none
theorem clBx_eq {ρ : Type} {y x : Bx} {r : Cl ρ} {d : ρ} (h : Goods (clBx y x r) d) : Goods r d ∧ y.rd = x.rd ∧ y.fp = x.fp ∧ (∀ ft w0 w, y.Holds ft w0 w → x.Holds ft w0 w) := by
  obtain ⟨yb, yo, yt, yc, yk⟩ := y
  obtain ⟨xb, xo, xt, xc, xk⟩ := x
  have ptr : ∀ {b o b' o' : Nat}, Value.pointer (some ⟨b, o, none⟩) = .pointer (some ⟨b', o', none⟩) → b = b' ∧ o = o' := fun h => by
    injection h with h
    injection h with h
    injection h with h1 h2
    exact ⟨h1, h2⟩
  have tup : ∀ {c c' : List Value}, Value.tuple c.toArray = .tuple c'.toArray → c = c' := fun h => by
    injection h with h
    simpa using h
  cases yk <;> cases xk <;> simp only [clBx] at h <;> first
    | exact h.no.elim
    | skip
  · cases ht : Nat.beq yt xt with
    | false => simp only [ht] at h; exact h.no.elim
    | true =>
      simp only [ht] at h
      obtain ⟨h1, h2⟩ := ptr h.cl.1
      have h3 := tup h.cl.2.cl.1
      have h4 := Nat.eq_of_beq_eq_true ht
      subst h1 h2 h3 h4
      exact ⟨h.cl.2.cl.2, rfl, rfl, fun _ _ _ h => h⟩
  · cases ht : Nat.beq yt xt with
    | false => simp only [ht] at h; exact h.no.elim
    | true =>
      simp only [ht] at h
      obtain ⟨h1, h2⟩ := ptr h.cl.1
      have h3 := tup h.cl.2.cl.1
      have h4 := Nat.eq_of_beq_eq_true ht
      subst h1 h2 h3 h4
      exact ⟨h.cl.2.cl.2, rfl, rfl, fun _ _ _ h => h⟩
  · rename_i q p q' p'
    cases xc with
    | cons c cs => simp only at h; exact h.cl.2.clc.2.no.elim
    | nil =>
      simp only at h
      have h1 := h.cl.1
      have h2 := h.cl.2.clc.1
      have h3 : q = q' := by
        injection h1 with h1
        cases q <;> cases q' <;> simp_all
      injection h2 with h2
      subst h2 h3
      exact ⟨h.cl.2.clc.2, rfl, rfl, fun _ _ _ h => ⟨rfl, h.2⟩⟩
  · cases xc with
    | cons c cs => simp only at h; exact h.clc.2.clc.2.no.elim
    | nil =>
      simp only at h
      have h1 := h.clc.1
      have h2 := h.clc.2.clc.1
      injection h1 with h1
      injection h2 with h2
      subst h1 h2
      exact ⟨h.clc.2.clc.2, rfl, rfl, fun _ _ _ h => ⟨rfl, h.2⟩⟩
theorem clSame_sound {ρ : Type} {h h' : List Bx} {W : List Nat} {d : ρ} : ∀ (l : List Nat) (r : Cl ρ), Goods (clSame h h' W l r) d → Goods r d ∧ ∀ i ∈ l, i ∉ W → ∃ y x, h'[i]? = some y ∧ h[i]? = some x ∧ y.rd = x.rd ∧ y.fp = x.fp ∧ (∀ ft w0 w, y.Holds ft w0 w → x.Holds ft w0 w)
  | [], r, hg => ⟨hg, fun i hi => by cases hi⟩
  | i :: l, r, hg => by
    simp only [clSame] at hg
    cases hb : inL W i with
    | true =>
      simp only [hb] at hg
      obtain ⟨h1, h2⟩ := clSame_sound l r hg
      refine ⟨h1, fun j hj hn => ?_⟩
      rcases List.mem_cons.1 hj with rfl | hj
      · exact absurd (inL_iff.1 hb) hn
      · exact h2 j hj hn
    | false =>
      simp only [hb] at hg
      cases hy : h'[i]? with
      | none => simp only [hy] at hg; exact hg.no.elim
      | some y =>
        cases hx : h[i]? with
        | none => simp only [hy, hx] at hg; exact hg.no.elim
        | some x =>
          simp only [hy, hx] at hg
          obtain ⟨h1, h2⟩ := clBx_eq hg
          obtain ⟨h3, h4⟩ := clSame_sound l r h1
          refine ⟨h3, fun j hj hn => ?_⟩
          rcases List.mem_cons.1 hj with rfl | hj
          · exact ⟨y, x, hy, hx, h2⟩
          · exact h4 j hj hn
def idD (hs : List (Nat × Hint)) (ops : Array Oper) (nx0 j : Nat) : Nat := match takD hs ops j with
  | 0 => nxD hs ops nx0 ops.size
  | _ => nxD hs ops nx0 j
def stepD (n : Nat) (P : Program) (E : Sup) (hs : List (Nat × Hint)) (ops : Array Oper) (nx0 : Nat) (j : Nat) (s : Sl × List Bx) : Cl (Sl × List Bx) :=
  match wantedT ops s.1 (opD ops j) with
  | none => none
  | some false => match putT n s.1 (opD ops j).dst undef with
    | some T' => some ([], T', s.2)
    | none => none
  | some true => bindC (exOp P E nx0 (idD hs ops nx0 j) (opD ops j) (hintAt hs j) s.1 (onlyG (acD hs ops j) 0 s.2)) fun d => match putT n s.1 (opD ops j).dst d.1 with
    | some T' => match Nat.beq s.2.length d.2.length with
      | true => clSame s.2 d.2 (WD hs ops nx0 j) (acD hs ops j) (some ([], T', mergeG (WD hs ops nx0 j) 0 s.2 d.2))
      | false => none
    | none => none
def seqD (n : Nat) (P : Program) (E : Sup) (hs : List (Nat × Hint)) (ops : Array Oper) (nx0 : Nat) : Nat → Nat → Sl × List Bx → Cl (List (Sl × List Bx))
  | 0, _, s => some ([], [s])
  | m + 1, j, s => bindC (stepD n P E hs ops nx0 j s) fun s' => bindC (seqD n P E hs ops nx0 m (j + 1) s') fun l => some ([], s :: l)
theorem seqD_spec {n : Nat} {P : Program} {E : Sup} {hs : List (Nat × Hint)} {ops : Array Oper} {nx0 : Nat} : ∀ (m j : Nat) (s : Sl × List Bx) (l : List (Sl × List Bx)), Goods (seqD n P E hs ops nx0 m j s) l →
    l[0]? = some s ∧ l.length = m + 1 ∧ ∀ i, i < m → ∃ s1 s2, l[i]? = some s1 ∧ l[i + 1]? = some s2 ∧ Goods (stepD n P E hs ops nx0 (j + i) s1) s2
  | 0, j, s, l, h => by
    have := h.ret
    subst this
    exact ⟨rfl, rfl, fun i hi => by omega⟩
  | m + 1, j, s, l, h => by
    obtain ⟨s', h1, h2⟩ := h.bind
    obtain ⟨l', h3, h4⟩ := h2.bind
    have := h4.ret
    subst this
    obtain ⟨e1, e2, e3⟩ := seqD_spec m (j + 1) s' l' h3
    refine ⟨rfl, by simp [e2], fun i hi => ?_⟩
    cases i with
    | zero => exact ⟨s, s', rfl, by simpa using e1, h1⟩
    | succ i =>
      obtain ⟨s1, s2, g1, g2, g3⟩ := e3 i (by omega)
      exact ⟨s1, s2, by simpa using g1, by simpa using g2, by rw [show j + (i + 1) = j + 1 + i by omega]; exact g3⟩
/-- What is known of a block, by the operations that are done. -/
def contN (hs : List (Nat × Hint)) (ops : Array Oper) (nx0 : Nat) (l : List (Sl × List Bx)) (D : Nat → Bool) (p : Nat) : Nat → Option Bx
  | 0 => (l[0]?).bind (·.2[p]?)
  | i + 1 => match D i && inL (WD hs ops nx0 i) p with
    | true => (l[i + 1]?).bind (·.2[p]?)
    | false => contN hs ops nx0 l D p i
def AliveD (hs : List (Nat × Hint)) (ops : Array Oper) (nx0 : Nat) (D : Nat → Bool) (p : Nat) : Prop := p < nx0 ∨ ∃ m, m < ops.size ∧ D m = true ∧ p ∈ nwD hs ops nx0 m
section
variable {n : Nat} {P : Program} {E : Sup} {hs : List (Nat × Hint)} {ops : Array Oper} {nx0 : Nat} {l : List (Sl × List Bx)} {D : Nat → Bool}
/-- The states, one behind the other. -/
def SeqOk (n : Nat) (P : Program) (E : Sup) (hs : List (Nat × Hint)) (ops : Array Oper) (nx0 : Nat) (l : List (Sl × List Bx)) : Prop :=
  l.length = ops.size + 1 ∧ ∀ j, j < ops.size → ∃ s1 s2, l[j]? = some s1 ∧ l[j + 1]? = some s2 ∧ Goods (stepD n P E hs ops nx0 j s1) s2
/-- What one step says. -/
structure StepSaid (n : Nat) (P : Program) (E : Sup) (hs : List (Nat × Hint)) (ops : Array Oper) (nx0 : Nat) (j : Nat) (s1 s2 : Sl × List Bx) (d : Value × List Bx) : Prop where
  put : putT n s1.1 (opD ops j).dst d.1 = some s2.1
  len : s1.2.length = d.2.length
  mer : s2.2 = mergeG (WD hs ops nx0 j) 0 s1.2 d.2
  same : ∀ i ∈ acD hs ops j, i ∉ WD hs ops nx0 j → ∃ y x, d.2[i]? = some y ∧ s1.2[i]? = some x ∧ y.rd = x.rd ∧ y.fp = x.fp ∧ (∀ ft w0 w, y.Holds ft w0 w → x.Holds ft w0 w)
theorem step_cases {j : Nat} {s1 s2 : Sl × List Bx} (h : Goods (stepD n P E hs ops nx0 j s1) s2) :
    (wantedT ops s1.1 (opD ops j) = some false ∧ putT n s1.1 (opD ops j).dst undef = some s2.1 ∧ s2.2 = s1.2) ∨
    (wantedT ops s1.1 (opD ops j) = some true ∧ ∃ d, Goods (exOp P E nx0 (idD hs ops nx0 j) (opD ops j) (hintAt hs j) s1.1 (onlyG (acD hs ops j) 0 s1.2)) d ∧ StepSaid n P E hs ops nx0 j s1 s2 d) := by
  cases hw : wantedT ops s1.1 (opD ops j) with
  | none => simp only [stepD, hw] at h; exact h.no.elim
  | some b =>
    simp only [stepD, hw] at h
    cases b with
    | false =>
      simp only at h
      cases hp : putT n s1.1 (opD ops j).dst undef with
      | none => simp only [hp] at h; exact h.no.elim
      | some T' =>
        simp only [hp] at h
        have := h.ret
        subst this
        exact Or.inl ⟨rfl, rfl, rfl⟩
    | true =>
      simp only at h
      obtain ⟨d, hd, h⟩ := h.bind
      cases hp : putT n s1.1 (opD ops j).dst d.1 with
      | none => simp only [hp] at h; exact h.no.elim
      | some T' =>
        simp only [hp] at h
        cases hl : Nat.beq s1.2.length d.2.length with
        | false => simp only [hl] at h; exact h.no.elim
        | true =>
          simp only [hl] at h
          obtain ⟨h1, h2⟩ := clSame_sound _ _ h
          have := h1.ret
          subst this
          exact Or.inr ⟨rfl, d, hd, hp, Nat.eq_of_beq_eq_true hl, rfl, h2⟩
theorem step_other {j p : Nat} {s1 s2 : Sl × List Bx} (h : Goods (stepD n P E hs ops nx0 j s1) s2) (hp : p ∉ WD hs ops nx0 j) : s2.2[p]? = s1.2[p]? := by
  rcases step_cases h with ⟨_, _, h⟩ | ⟨_, d, _, h⟩
  · rw [h]
  · rw [h.mer, mergeG_get h.len, Nat.zero_add, if_neg hp]
theorem putT_find {T T' : Sl} {d : Option Tmp} {v : Value} (h : putT n T d v = some T') (k : Nat) : (d ≠ some k → find T' k = find T k) ∧ (d = some k → find T' k = some v) := by
  cases d with
  | none =>
    obtain rfl := Option.some.inj h
    exact ⟨fun _ => rfl, fun h => by cases h⟩
  | some d =>
    simp only [putT] at h
    split at h
    · obtain rfl := Option.some.inj h
      refine ⟨fun hn => ?_, fun e => ?_⟩
      · simp only [find]
        split
        · rename_i hb
          exact absurd (by rw [Nat.eq_of_beq_eq_true hb]) hn
        · rfl
      · obtain rfl := Option.some.inj e
        simp only [find, Nat.beq_refl]
    · cases h
theorem step_find {j : Nat} {s1 s2 : Sl × List Bx} (h : Goods (stepD n P E hs ops nx0 j s1) s2) {k : Nat} (hk : (opD ops j).dst ≠ some k) : find s2.1 k = find s1.1 k := by
  rcases step_cases h with ⟨_, h, _⟩ | ⟨_, d, _, h⟩
  · exact (putT_find h k).1 hk
  · exact (putT_find h.put k).1 hk
theorem seq_find (hS : SeqOk n P E hs ops nx0 l) {k : Nat} : ∀ (m i : Nat), i + m ≤ ops.size → (∀ q, i ≤ q → q < i + m → (opD ops q).dst ≠ some k) → ∀ s s', l[i]? = some s → l[i + m]? = some s' → find s'.1 k = find s.1 k
  | 0, i, _, _, s, s', h1, h2 => by
    rw [Nat.add_zero, h1] at h2
    rw [Option.some.inj h2]
  | m + 1, i, hm, hq, s, s', h1, h2 => by
    obtain ⟨s1, s2, e1, e2, e3⟩ := hS.2 (i + m) (by omega)
    have h3 := seq_find hS m i (by omega) (fun q h3 h4 => hq q h3 (by omega)) s s1 h1 e1
    rw [show i + (m + 1) = i + m + 1 by omega, e2] at h2
    rw [← Option.some.inj h2, step_find e3 (hq (i + m) (by omega) (by omega)), h3]
theorem cont_at (hS : SeqOk n P E hs ops nx0 l) {p : Nat} (j : Nat) (_hj : j ≤ ops.size) (h1 : ∀ i, i < j → p ∈ WD hs ops nx0 i → D i = true) :
    ∀ m, m ≤ ops.size → (∀ i, j ≤ i → i < m → p ∈ WD hs ops nx0 i → D i = false) → contN hs ops nx0 l D p m = (l[min m j]?).bind (·.2[p]?) := by
  intro m
  induction m with
  | zero => intro _ _; rw [Nat.zero_min]; rfl
  | succ m ih =>
    intro hm h2
    have ih' := ih (by omega) fun i h3 h4 => h2 i h3 (by omega)
    simp only [contN]
    by_cases hlt : m < j
    · rw [show min (m + 1) j = m + 1 by omega]
      rw [show min m j = m by omega] at ih'
      cases hb : D m && inL (WD hs ops nx0 m) p with
      | true => rfl
      | false =>
        simp only
        rw [ih']
        obtain ⟨s1, s2, e1, e2, e3⟩ := hS.2 m (by omega)
        rw [e1, e2]
        simp only [Option.bind_some]
        refine (step_other e3 fun hp => ?_).symm
        rw [h1 m hlt hp, inL_iff.2 hp] at hb
        cases hb
    · rw [show min (m + 1) j = j by omega]
      rw [show min m j = j by omega] at ih'
      cases hb : D m && inL (WD hs ops nx0 m) p with
      | true =>
        rw [Bool.and_eq_true] at hb
        have := h2 m (by omega) (by omega) (inL_iff.1 hb.2)
        rw [hb.1] at this
        cases this
      | false => exact ih'
theorem cont_same {D' : Nat → Bool} {p j : Nat} (hD : ∀ k, k ≠ j → D' k = D k) (hp : p ∉ WD hs ops nx0 j) : ∀ m, contN hs ops nx0 l D' p m = contN hs ops nx0 l D p m
  | 0 => rfl
  | m + 1 => by
    simp only [contN]
    have : (D' m && inL (WD hs ops nx0 m) p) = (D m && inL (WD hs ops nx0 m) p) := by
      by_cases hm : m = j
      · subst hm
        cases hb : inL (WD hs ops nx0 m) p with
        | true => exact absurd (inL_iff.1 hb) hp
        | false => simp
      · rw [hD m hm]
    rw [this, cont_same hD hp m]
end
theorem nxD_mono {hs : List (Nat × Hint)} {ops : Array Oper} {nx0 : Nat} : ∀ {m k : Nat}, m ≤ k → nxD hs ops nx0 m ≤ nxD hs ops nx0 k
  | m, 0, h => by
    obtain rfl : m = 0 := by omega
    exact Nat.le_refl _
  | m, k + 1, h => by
    by_cases e : m = k + 1
    · rw [e]
      exact Nat.le_refl _
    · exact Nat.le_trans (nxD_mono (show m ≤ k by omega)) (Nat.le_add_right _ _)
theorem nwD_iff {hs : List (Nat × Hint)} {ops : Array Oper} {nx0 m p : Nat} : p ∈ nwD hs ops nx0 m ↔ nxD hs ops nx0 m ≤ p ∧ p < nxD hs ops nx0 m + takD hs ops m := by
  unfold nwD
  rw [List.mem_range'_1]
/-- What holds when the operations of D are done. -/
structure DInv (n : Nat) (P : Program) (ft : List Nat) (w0 : World) (E : Sup) (hs : List (Nat × Hint)) (ops : Array Oper) (nx0 : Nat) (D : Nat → Bool) (l : List (Sl × List Bx)) (a : Act) (w : World) : Prop where
  seq : SeqOk n P E hs ops nx0 l
  d : a.defers = []
  n : a.tmps.size = n
  slots : ∀ j d v s, j < ops.size → D j = true → (opD ops j).dst = some d → l[j + 1]? = some s → find s.1 d = some v → a.tmps[d]? = some v
  slots0 : ∀ k v s, l[0]? = some s → find s.1 k = some v → (∀ j, j < ops.size → D j = true → (opD ops j).dst ≠ some k) → a.tmps[k]? = some v
  keep : Keep ft w0 w
  box : ∀ p x, contN hs ops nx0 l D p ops.size = some x → x.Holds ft w0 w
  ne : ∀ p q x y, p ≠ q → contN hs ops nx0 l D p ops.size = some x → contN hs ops nx0 l D q ops.size = some y → ∀ b, x.fp b → ¬ y.rd b
theorem dstOf_eq {ops : Array Oper} {j : Nat} (h : j < ops.size) : dstOf ops j = (opD ops j).dst := by
  unfold dstOf opD
  rw [Array.getElem?_eq_getElem h]
  rfl
theorem fp_rd {x : Bx} {b : Nat} (h : x.fp b) : x.rd b := by
  obtain ⟨xb, xo, xt, xc, xk⟩ := x
  cases xk <;> first | exact h | cases h
section
variable {n : Nat} {P : Program} {ft : List Nat} {w0 : World} {E : Sup} {hs : List (Nat × Hint)} {ops : Array Oper} {nx0 : Nat} {D : Nat → Bool} {l : List (Sl × List Bx)} {a : Act} {w : World}
theorem DInv.known (I : DInv n P ft w0 E hs ops nx0 D l a w) (S : DrawSpec hs ops nx0) (hdn : Down ops D) {j : Nat} (hj : j < ops.size) (hDj : D j = false) (hw : ∀ k ∈ dWaits ops j, D k = true) {s : Sl × List Bx} (hs' : l[j]? = some s) {k : Nat} (hk : k ∈ (opD ops j).looksAt ops) {v : Value} (hv : find s.1 k = some v) : a.tmps[k]? = some v := by
  by_cases h : ∃ i, i < ops.size ∧ (opD ops i).dst = some k
  · obtain ⟨i, hi, hd⟩ := h
    have hl0 : ∃ s0, l[0]? = some s0 := ⟨_, List.getElem?_eq_getElem (by rw [I.seq.1]; omega)⟩
    rcases S.look j i k hj hi (by rw [dstOf_eq hi]; exact hd) hk with ⟨hij, hwt⟩ | ⟨hij, hwt⟩
    · obtain ⟨s1, s2, e1, e2, _⟩ := I.seq.2 i hi
      refine I.slots i k v s2 hi (hwt D hdn hw) hd e2 ?_
      have := seq_find I.seq (k := k) (j - (i + 1)) (i + 1) (by omega) (fun q h1 h2 h3 => by
        have := S.uniq q i k (by omega) hi (by rw [dstOf_eq hi]; exact hd) (by rw [dstOf_eq (by omega)]; exact h3)
        omega) s2 s e2 (by rw [show i + 1 + (j - (i + 1)) = j by omega]; exact hs')
      rw [← this]
      exact hv
    · obtain ⟨s0, h0⟩ := hl0
      refine I.slots0 k v s0 h0 ?_ fun q hq hDq h3 => ?_
      · have := seq_find I.seq (k := k) j 0 (by omega) (fun q _ h2 h3 => by
          have := S.uniq q i k (by omega) hi (by rw [dstOf_eq hi]; exact hd) (by rw [dstOf_eq (by omega)]; exact h3)
          omega) s0 s h0 (by rw [Nat.zero_add]; exact hs')
        rw [← this]
        exact hv
      · have hqi := S.uniq q i k hq hi (by rw [dstOf_eq hi]; exact hd) (by rw [dstOf_eq hq]; exact h3)
        subst hqi
        have := hwt D hdn (hdn i hDq)
        rw [hDj] at this
        cases this
  · have hl0 : ∃ s0, l[0]? = some s0 := ⟨_, List.getElem?_eq_getElem (by rw [I.seq.1]; omega)⟩
    obtain ⟨s0, h0⟩ := hl0
    refine I.slots0 k v s0 h0 ?_ fun i hi _ hd => h ⟨i, hi, hd⟩
    have := seq_find I.seq (k := k) j 0 (by omega) (fun q _ h2 h3 => h ⟨q, by omega, h3⟩) s0 s h0 (by rw [Nat.zero_add]; exact hs')
    rw [← this]
    exact hv
theorem DInv.at_ (I : DInv n P ft w0 E hs ops nx0 D l a w) (S : DrawSpec hs ops nx0) (hd : Down ops D) {j : Nat} (hj : j < ops.size) (hDj : D j = false) (hw : ∀ k ∈ dWaits ops j, D k = true) {s : Sl × List Bx} (hs' : l[j]? = some s) {p : Nat} (hp : p ∈ TD hs ops nx0 j) : contN hs ops nx0 l D p ops.size = s.2[p]? := by
  have hWT : ∀ i, p ∈ WD hs ops nx0 i → p ∈ TD hs ops nx0 i := fun i h => by
    unfold WD at h
    unfold TD acD
    rcases List.mem_append.1 h with h | h
    · exact List.mem_append_left _ (List.mem_append_right _ h)
    · exact List.mem_append_right _ h
  have := cont_at (D := D) (p := p) I.seq j (by omega) (fun i hi hpi => (S.conf j i p hj hi hp (hWT i hpi) (Or.inr hpi)) _ hd hw) ops.size (Nat.le_refl _) (fun i hi hi2 hpi => by
    by_cases e : i = j
    · rw [e]
      exact hDj
    · cases hb : D i with
      | false => rfl
      | true =>
        have := (S.conf i j p hi2 (by omega) (hWT i hpi) hp (Or.inl hpi)) _ hd (hd i hb)
        rw [hDj] at this
        cases this)
  rw [this, show min ops.size j = j by omega, hs']
  rfl
theorem DInv.fits (I : DInv n P ft w0 E hs ops nx0 D l a w) (S : DrawSpec hs ops nx0) (hd : Down ops D) {j : Nat} (hj : j < ops.size) (hDj : D j = false) (hw : ∀ k ∈ dWaits ops j, D k = true) {s : Sl × List Bx} (hs' : l[j]? = some s) : Fits ft w0 (onlyG (acD hs ops j) 0 s.2) w := by
  have hin : ∀ p, p ∈ acD hs ops j → p ∈ TD hs ops nx0 j := fun p h => List.mem_append_left _ h
  refine ⟨I.keep, fun i x hi => ?_, fun i k x y hi hk hik b hb hyb => ?_⟩
  · rcases onlyG_get hi with ⟨h1, h2⟩ | ⟨_, rfl⟩
    · rw [Nat.zero_add] at h1
      exact I.box i x ((I.at_ S hd hj hDj hw hs' (hin i h1)).trans h2)
    · rfl
  · rcases onlyG_get hi with ⟨h1, h2⟩ | ⟨_, rfl⟩
    · rcases onlyG_get hk with ⟨h3, h4⟩ | ⟨_, rfl⟩
      · rw [Nat.zero_add] at h1 h3
        exact I.ne i k x y hik ((I.at_ S hd hj hDj hw hs' (hin i h1)).trans h2) ((I.at_ S hd hj hDj hw hs' (hin k h3)).trans h4) b hb hyb
      · cases hyb
    · cases hb
/-- The slots behind an operation. -/
theorem DInv.put (I : DInv n P ft w0 E hs ops nx0 D l a w) (S : DrawSpec hs ops nx0) {j : Nat} (hj : j < ops.size) {D' : Nat → Bool} (hD : ∀ k, k ≠ j → D' k = D k) (hDt : D' j = true) {s1 s2 : Sl × List Bx} (h2 : l[j + 1]? = some s2) {v : Value} (hp : putT n s1.1 (opD ops j).dst v = some s2.1) {w' : World} (hk : Keep ft w0 w')
    (hb : ∀ p x, contN hs ops nx0 l D' p ops.size = some x → x.Holds ft w0 w') (hne : ∀ p q x y, p ≠ q → contN hs ops nx0 l D' p ops.size = some x → contN hs ops nx0 l D' q ops.size = some y → ∀ b, x.fp b → ¬ y.rd b) :
    DInv n P ft w0 E hs ops nx0 D' l (a.put (opD ops j).dst v) w' := by
  have hput : ∀ k, (opD ops j).dst ≠ some k → (a.put (opD ops j).dst v).tmps[k]? = a.tmps[k]? := fun k hk => by
    cases hd : (opD ops j).dst with
    | none => rfl
    | some d =>
      rw [hd] at hk
      simp only [Act.put, Array.getElem?_setIfInBounds]
      rw [if_neg fun e => hk (by rw [e])]
  refine ⟨I.seq, ?_, ?_, fun i d u s hi hDi hdi hs' hf => ?_, fun k u s hs' hf hn => ?_, hk, hb, hne⟩
  · cases hd : (opD ops j).dst with
    | none => exact I.d
    | some d => exact I.d
  · cases hd : (opD ops j).dst with
    | none => exact I.n
    | some d => simpa [Act.put] using I.n
  · by_cases e : i = j
    · subst e
      rw [h2] at hs'
      obtain rfl := Option.some.inj hs'
      rw [(putT_find hp d).2 hdi] at hf
      obtain rfl := Option.some.inj hf
      rw [hdi] at hp ⊢
      simp only [putT] at hp
      split at hp
      · rename_i hlt
        have hlt : d < n := by simpa [Nat.blt_eq] using hlt
        simp only [Act.put, Array.getElem?_setIfInBounds, if_true]
        rw [if_pos (by rw [I.n]; exact hlt)]
      · cases hp
    · rw [hD i e] at hDi
      rw [hput d fun h => e (S.uniq j i d hj hi (by rw [dstOf_eq hi]; exact hdi) (by rw [dstOf_eq hj]; exact h))]
      exact I.slots i d u s hi hDi hdi hs' hf
  · rw [hput k (hn j hj hDt)]
    refine I.slots0 k u s hs' hf fun i hi hDi => ?_
    by_cases e : i = j
    · rw [e]
      exact hn j hj hDt
    · exact hn i hi ((hD i e).trans hDi)
end
theorem dCount_set {l : List Bool} : ∀ {i : Nat}, l[i]? = some false → (l.set i true).count false + 1 = l.count false := by
  induction l with
  | nil => intro i h; simp at h
  | cons b l ih =>
    intro i h
    cases i with
    | zero =>
      obtain rfl : b = false := by simpa using h
      simp
    | succ i =>
      have := ih (i := i) (by simpa using h)
      simp only [List.set_cons_succ, List.count_cons]
      omega
theorem opD_some {ops : Array Oper} {i : Nat} {o : Oper} (h : ops[i]? = some o) : opD ops i = o := by
  unfold opD
  rw [h]
  rfl
/-- A region that draws its order, for all orders and all numbers. -/
theorem drawn_sound {ρ : Type} {n : Nat} {P : Program} {ops : Array Oper} {hs : List (Nat × Hint)} {nx0 : Nat} {K : Sup → Sl × List Bx → Cl ρ} {w0 : World} {ft : List Nat} {Q : Exit → Act → World → Prop} (hh : HintsOk P ft w0 hs) (S : DrawSpec hs ops nx0)
    (hK : ∀ β' a' w', Fam n ft w0 (nxD hs ops nx0 ops.size) β' a' w' (fun E T h => ∃ d, Goods (K E (T, h)) d) → Q .normal a' w') :
    ∀ (fuel : Nat) (listed : Array Bool) (β : Sup) (a : Act) (w : World), listed.size = ops.size → listed.toList.count false ≤ fuel → Down ops (fun i => listed.getD i false) →
      (∀ E, Agr (AliveD hs ops nx0 (fun i => listed.getD i false)) β E → ∃ l, DInv n P ft w0 E hs ops nx0 (fun i => listed.getD i false) l a w ∧ ∀ s, l[ops.size]? = some s → ∃ d, Goods (K E s) d) →
      wpAny P .any ops Q fuel listed a w := by
  have hsizes : nx0 ≤ nxD hs ops nx0 ops.size := nxD_mono (m := 0) (Nat.zero_le _)
  intro fuel
  -- the end
  have hend : ∀ (listed : Array Bool) (β : Sup) (a : Act) (w : World), listed.size = ops.size → Region.ready .any ops listed = [] →
      (∀ E, Agr (AliveD hs ops nx0 (fun i => listed.getD i false)) β E → ∃ l, DInv n P ft w0 E hs ops nx0 (fun i => listed.getD i false) l a w ∧ ∀ s, l[ops.size]? = some s → ∃ d, Goods (K E s) d) → Q .normal a w := by
    intro listed β a w hsz hr hyp
    have hall : ∀ m k, k ≤ m → k < ops.size → listed.getD k false = true := by
      intro m
      induction m with
      | zero =>
        intro k hk hlt
        obtain rfl : k = 0 := by omega
        cases hd : listed.getD 0 false with
        | true => rfl
        | false =>
          have : 0 ∈ Region.ready .any ops listed := by
            rw [mem_ready]
            refine ⟨getD_in (by omega) hd, _, Array.getElem?_eq_getElem hlt, fun e he hb => ?_⟩
            have := S.back 0 e.on hlt (by
              unfold dWaits
              rw [Array.getElem?_eq_getElem hlt]
              exact List.mem_map.2 ⟨e, List.mem_filter.2 ⟨by simpa using he, hb⟩, rfl⟩)
            omega
          rw [hr] at this
          simp at this
      | succ m ih =>
        intro k hk hlt
        cases hd : listed.getD k false with
        | true => rfl
        | false =>
          have : k ∈ Region.ready .any ops listed := by
            rw [mem_ready]
            refine ⟨getD_in (by omega) hd, _, Array.getElem?_eq_getElem hlt, fun e he hb => ?_⟩
            have := S.back k e.on hlt (by
              unfold dWaits
              rw [Array.getElem?_eq_getElem hlt]
              exact List.mem_map.2 ⟨e, List.mem_filter.2 ⟨by simpa using he, hb⟩, rfl⟩)
            exact ih e.on (by omega) (by omega)
          rw [hr] at this
          simp at this
    have hD : ∀ k, k < ops.size → listed.getD k false = true := fun k hk => hall k k (Nat.le_refl _) hk
    refine hK β a w fun E hE => ?_
    obtain ⟨l, I, hfin⟩ := hyp E fun p hp => hE p (by
      rcases hp with hp | ⟨m, hm, _, hp⟩
      · exact Nat.lt_of_lt_of_le hp hsizes
      · have h1 := (nwD_iff.1 hp).2
        have := nxD_mono (hs := hs) (ops := ops) (nx0 := nx0) (show m + 1 ≤ ops.size from hm)
        simp only [nxD] at this
        exact Nat.lt_of_lt_of_le h1 this)
    obtain ⟨s, hsN⟩ : ∃ s, l[ops.size]? = some s := ⟨_, List.getElem?_eq_getElem (by rw [I.seq.1]; omega)⟩
    obtain ⟨d, hg⟩ := hfin s hsN
    have hc : ∀ p, contN hs ops nx0 l (fun i => listed.getD i false) p ops.size = s.2[p]? := fun p => by
      have := cont_at (D := fun i => listed.getD i false) (p := p) I.seq ops.size (Nat.le_refl _) (fun i hi _ => hD i hi) ops.size (Nat.le_refl _) (fun i h1 h2 => by omega)
      rw [this, Nat.min_self, hsN]
      rfl
    refine ⟨s.1, s.2, ⟨I.d, I.n, fun k v hv => ?_⟩, ⟨I.keep, fun i x hi => I.box i x ((hc i).trans hi), fun i j x y hi hj hij => I.ne i j x y hij ((hc i).trans hi) ((hc j).trans hj)⟩, d, hg⟩
    by_cases h : ∃ i, i < ops.size ∧ (opD ops i).dst = some k
    · obtain ⟨i, hi, hdi⟩ := h
      obtain ⟨s1, s2, _, e2, _⟩ := I.seq.2 i hi
      refine I.slots i k v s2 hi (hD i hi) hdi e2 ?_
      have := seq_find I.seq (k := k) (ops.size - (i + 1)) (i + 1) (by omega) (fun q h1 h2 h3 => by
        have := S.uniq q i k (by omega) hi (by rw [dstOf_eq hi]; exact hdi) (by rw [dstOf_eq (by omega)]; exact h3)
        omega) s2 s e2 (by rw [show i + 1 + (ops.size - (i + 1)) = ops.size by omega]; exact hsN)
      rw [← this]
      exact hv
    · obtain ⟨s0, h0⟩ : ∃ s0, l[0]? = some s0 := ⟨_, List.getElem?_eq_getElem (by rw [I.seq.1]; omega)⟩
      refine I.slots0 k v s0 h0 ?_ fun i hi _ hdi => h ⟨i, hi, hdi⟩
      have := seq_find I.seq (k := k) ops.size 0 (by omega) (fun q _ h2 h3 => h ⟨q, by omega, h3⟩) s0 s h0 (by rw [Nat.zero_add]; exact hsN)
      rw [← this]
      exact hv
  induction fuel with
  | zero =>
    intro listed β a w hsz hcnt hd hyp
    have hr : Region.ready .any ops listed = [] := by
      rcases hr : Region.ready .any ops listed with _ | ⟨i, rest⟩
      · rfl
      · have : i ∈ Region.ready .any ops listed := by rw [hr]; exact List.mem_cons_self ..
        obtain ⟨hun, o, ho, _⟩ := mem_ready.1 this
        have hlt : i < listed.size := by rw [hsz]; exact (Array.getElem?_eq_some_iff.1 ho).1
        have : false ∈ listed.toList := by
          rw [Array.mem_toList_iff]
          have : listed[i] = false := by simpa [hlt] using hun
          rw [← this]
          exact Array.getElem_mem hlt
        have := List.count_pos_iff.2 this
        omega
    exact ⟨hr, hend listed β a w hsz hr hyp⟩
  | succ fuel ih =>
    intro listed β a w hsz hcnt hd hyp
    refine ⟨fun hr => hend listed β a w hsz hr hyp, fun i hi => ?_⟩
    obtain ⟨hun, o, ho, hall⟩ := mem_ready.1 hi
    have hlt : i < ops.size := (Array.getElem?_eq_some_iff.1 ho).1
    have hltl : i < listed.size := by omega
    have hDi : listed.getD i false = false := getD_both hun
    have hwt : ∀ k ∈ dWaits ops i, listed.getD k false = true := by
      intro k hk
      unfold dWaits at hk
      rw [ho] at hk
      obtain ⟨e, he, rfl⟩ := List.mem_map.1 hk
      obtain ⟨he, hb⟩ := List.mem_filter.1 he
      exact hall e (by simpa using he) hb
    have hsz' : (listed.setIfInBounds i true).size = ops.size := by simp [hsz]
    have hcnt' : (listed.setIfInBounds i true).toList.count false ≤ fuel := by
      have h2 : listed.toList[i]? = some false := by
        rw [Array.getElem?_toList, Array.getElem?_eq_getElem hltl]
        have : listed[i] = false := by simpa [hltl] using hun
        rw [this]
      have := dCount_set h2
      rw [Array.toList_setIfInBounds]
      omega
    have hDne : ∀ k, k ≠ i → (listed.setIfInBounds i true).getD k false = listed.getD k false := fun k hk => getD_set_ne false (Ne.symm hk)
    have hDi' : (listed.setIfInBounds i true).getD i false = true := by simp [hltl]
    have hd' : Down ops (fun k => (listed.setIfInBounds i true).getD k false) := by
      intro k hk j hj
      try simp only at hk ⊢
      by_cases hki : k = i
      · subst hki; exact getD_set_true (hwt j hj)
      · rw [hDne k hki] at hk; exact getD_set_true (hd k hk j hj)
    have hoD : opD ops i = o := opD_some ho
    have hWT : ∀ p, p ∈ WD hs ops nx0 i → p ∈ TD hs ops nx0 i := fun p h => by
      unfold WD at h
      unfold TD acD
      rcases List.mem_append.1 h with h | h
      · exact List.mem_append_left _ (List.mem_append_right _ h)
      · exact List.mem_append_right _ h
    have hDfun : ∀ k, k ≠ i → (fun k => (listed.setIfInBounds i true).getD k false) k = (fun k => listed.getD k false) k := hDne
    have hal : ∀ p, AliveD hs ops nx0 (fun i => listed.getD i false) p → AliveD hs ops nx0 (fun k => (listed.setIfInBounds i true).getD k false) p := fun p hp =>
      hp.imp id fun ⟨m, hm, hDm, hp⟩ => ⟨m, hm, getD_set_true hDm, hp⟩
    -- behind the operation: what turned is as it was told
    have hcont : ∀ {E l w s1 s2}, DInv n P ft w0 E hs ops nx0 (fun i => listed.getD i false) l a w → l[i]? = some s1 → l[i + 1]? = some s2 → ∀ p, (p ∈ WD hs ops nx0 i → contN hs ops nx0 l (fun k => (listed.setIfInBounds i true).getD k false) p ops.size = s2.2[p]?) ∧ (p ∉ WD hs ops nx0 i → contN hs ops nx0 l (fun k => (listed.setIfInBounds i true).getD k false) p ops.size = contN hs ops nx0 l (fun i => listed.getD i false) p ops.size) := fun {E l w s1 s2} I h1 h2 p => by
      refine ⟨fun hp => ?_, fun hp => cont_same hDfun hp ops.size⟩
      have hWT' : ∀ m, p ∈ WD hs ops nx0 m → p ∈ TD hs ops nx0 m := fun m h => by
        unfold WD at h
        unfold TD acD
        rcases List.mem_append.1 h with h | h
        · exact List.mem_append_left _ (List.mem_append_right _ h)
        · exact List.mem_append_right _ h
      have := cont_at (D := fun k => (listed.setIfInBounds i true).getD k false) (p := p) I.seq (i + 1) (by omega) (fun m hm hpm => by
        by_cases e : m = i
        · rw [e]; exact hDi'
        · refine getD_set_true ((S.conf i m p hlt (by omega) (hWT p hp) (hWT' m hpm) (Or.inl hp)) _ hd hwt)) ops.size (Nat.le_refl _) (fun m hm1 hm2 hpm => by
        show (listed.setIfInBounds i true).getD m false = false
        rw [hDne m (by omega)]
        cases hb : listed.getD m false with
        | false => rfl
        | true =>
          have := (S.conf m i p hm2 (by omega) (hWT' m hpm) (hWT p hp) (Or.inl hpm)) _ hd (hd m hb)
          try simp only at this
          rw [hDi] at this
          cases this)
      rw [this, show min ops.size (i + 1) = i + 1 by omega, h2]
      rfl
    have hget : ∀ E, Agr (AliveD hs ops nx0 (fun i => listed.getD i false)) β E → ∃ l s1 s2, DInv n P ft w0 E hs ops nx0 (fun i => listed.getD i false) l a w ∧ (∀ s, l[ops.size]? = some s → ∃ d, Goods (K E s) d) ∧ l[i]? = some s1 ∧ l[i + 1]? = some s2 ∧ Goods (stepD n P E hs ops nx0 i s1) s2 := fun E hE => by
      obtain ⟨l, I, hf⟩ := hyp E hE
      obtain ⟨s1, s2, e1, e2, e3⟩ := I.seq.2 i hlt
      exact ⟨l, s1, s2, I, hf, e1, e2, e3⟩
    have hwant : ∀ {E l s1 b}, DInv n P ft w0 E hs ops nx0 (fun i => listed.getD i false) l a w → l[i]? = some s1 → wantedT ops s1.1 (opD ops i) = some b → Region.wanted o (yielded ops a.tmps) = b := fun {E l s1 b} I h1 hb => by
      rw [hoD] at hb
      refine wanted_of hb fun g want d v hg hdg hf => I.known S hd hlt hDi hwt h1 ?_ hf
      rw [hoD]
      refine List.mem_append_right _ ?_
      rw [hg]
      simp only
      rw [hdg]
      simp
    unfold wpOp
    simp only [ho]
    obtain ⟨l0, s10, s20, I0, _, e10, e20, g0⟩ := hget β (Agr.refl _ _)
    rcases step_cases g0 with ⟨hw0, _⟩ | ⟨hw0, _⟩
    · rw [hwant I0 e10 hw0, if_neg (by decide)]
      refine ih _ β _ w hsz' hcnt' hd' fun E hE => ?_
      obtain ⟨l, s1, s2, I, hf, e1, e2, g⟩ := hget E fun p hp => hE p (hal p hp)
      rcases step_cases g with ⟨_, hp, hh2⟩ | ⟨hw1, _⟩
      · have hcc : ∀ p, contN hs ops nx0 l (fun k => (listed.setIfInBounds i true).getD k false) p ops.size = contN hs ops nx0 l (fun i => listed.getD i false) p ops.size := fun p => by
          by_cases hpw : p ∈ WD hs ops nx0 i
          · rw [(hcont I e1 e2 p).1 hpw, hh2, I.at_ S hd hlt hDi hwt e1 (hWT p hpw)]
          · exact (hcont I e1 e2 p).2 hpw
        refine ⟨l, ?_, hf⟩
        rw [← hoD]
        exact I.put S hlt hDfun hDi' e2 hp I.keep (fun p x hx => I.box p x ((hcc p).symm.trans hx)) fun p q x y hpq hx hy => I.ne p q x y hpq ((hcc p).symm.trans hx) ((hcc q).symm.trans hy)
      · have := (hwant I e1 hw1).symm.trans (hwant I0 e10 hw0)
        cases this
    · rw [hwant I0 e10 hw0, if_pos rfl]
      refine Or.inl ?_
      have hge : ∀ k, nxD hs ops nx0 i ≤ k → nx0 ≤ k := fun k h => by
        have := nxD_mono (hs := hs) (ops := ops) (nx0 := nx0) (Nat.zero_le i)
        simp only [nxD] at this
        omega
      have hal0 : ∀ k, nxD hs ops nx0 i ≤ k → k < nxD hs ops nx0 i + takD hs ops i → ¬ AliveD hs ops nx0 (fun i => listed.getD i false) k := by
        rintro k hk1 hk2 (h | ⟨m, hm, hDm, h⟩)
        · have := hge k hk1
          omega
        · obtain ⟨h1, h2⟩ := nwD_iff.1 h
          have hne : m ≠ i := fun e => by
            have hDm' : listed.getD m false = true := hDm
            rw [e, hDi] at hDm'
            cases hDm'
          rcases Nat.lt_or_gt_of_ne hne with hlt2 | hgt
          · have := nxD_mono (hs := hs) (ops := ops) (nx0 := nx0) (show m + 1 ≤ i from hlt2)
            simp only [nxD] at this
            omega
          · have := nxD_mono (hs := hs) (ops := ops) (nx0 := nx0) (show i + 1 ≤ m from hgt)
            simp only [nxD] at this
            omega
      have hend' : ¬ AliveD hs ops nx0 (fun i => listed.getD i false) (nxD hs ops nx0 ops.size) := by
        rintro (h | ⟨m, hm, _, h⟩)
        · omega
        · have h1 := (nwD_iff.1 h).2
          have hm1 := nxD_mono (hs := hs) (ops := ops) (nx0 := nx0) (show m + 1 ≤ ops.size from hm)
          simp only [nxD] at hm1
          omega
      have hid : takD hs ops i = 0 ∧ idD hs ops nx0 i = nxD hs ops nx0 ops.size ∨ 0 < takD hs ops i ∧ idD hs ops nx0 i = nxD hs ops nx0 i := by
        unfold idD
        split
        · rename_i hz
          exact Or.inl ⟨hz, rfl⟩
        · rename_i hz
          exact Or.inr ⟨Nat.pos_of_ne_zero hz, rfl⟩
      have hidn : ¬ AliveD hs ops nx0 (fun i => listed.getD i false) (idD hs ops nx0 i) := by
        rcases hid with ⟨_, e⟩ | ⟨hp, e⟩
        · rw [e]
          exact hend'
        · rw [e]
          exact hal0 _ (Nat.le_refl _) (by omega)
      have hidns : ∀ k, idD hs ops nx0 i ≤ k → k < idD hs ops nx0 i + takes (opD ops i) (hintAt hs i) → ¬ AliveD hs ops nx0 (fun i => listed.getD i false) k := fun k h1 h2 => by
        have h2 : k < idD hs ops nx0 i + takD hs ops i := h2
        rcases hid with ⟨hz, e⟩ | ⟨_, e⟩
        · omega
        · rw [e] at h1 h2
          exact hal0 k h1 h2
      rw [← hoD]
      refine exOp_sound (n0 := nx0) (nx := idD hs ops nx0 i) (A := AliveD hs ops nx0 (fun i => listed.getD i false)) (β := β) (hint := hintAt hs i) (P := P) (ft := ft) (w0 := w0)
        (Φ := fun E h d => ∃ l s1 s2, DInv n P ft w0 E hs ops nx0 (fun i => listed.getD i false) l a w ∧ (∀ s, l[ops.size]? = some s → ∃ d, Goods (K E s) d) ∧ l[i]? = some s1 ∧ l[i + 1]? = some s2 ∧ h = onlyG (acD hs ops i) 0 s1.2 ∧ StepSaid n P E hs ops nx0 i s1 s2 d)
        (fun h he => hh.at he) (fun k hk => Or.inl hk) (fun k hk => ?_) hidn hidns (fun E hE => ?_) fun A' β' v w' hT hsize _ hE' => ?_
      · have hk' : k ∈ acD hs ops i := List.mem_append_left _ hk
        rcases S.acc i k hlt hk' with h | ⟨m, hm, h⟩
        · exact Or.inl h
        · refine Or.inr ⟨m, by omega, (S.conf i m k hlt hm (List.mem_append_left _ hk') (List.mem_append_right _ h) (Or.inr (List.mem_append_right _ h))) _ hd hwt, h⟩
      · obtain ⟨l, s1, s2, I, hf, e1, e2, g⟩ := hget E hE
        rcases step_cases g with ⟨hw1, _⟩ | ⟨_, d, hx, hsaid⟩
        · have := (hwant I e1 hw1).symm.trans (hwant I0 e10 hw0)
          cases this
        · refine ⟨s1.1, _, d, fun hk => op_eval hk fun y hy hky => ?_, hx, I.fits S hd hlt hDi hwt e1, l, s1, s2, I, hf, e1, e2, rfl, hsaid⟩
          cases y with
          | tmp k =>
            cases hfk : find s1.1 k with
            | none => simp [knownX, hfk] at hky
            | some u =>
              have := I.known S hd hlt hDi hwt e1 (List.mem_append_left _ (List.mem_filterMap.2 ⟨.tmp k, by simpa using hy, rfl⟩)) hfk
              simp [Act.eval, evT, hfk, Array.getD_eq_getD_getElem?, this]
          | _ => rfl
      · refine ih _ β' _ w' hsz' hcnt' hd' fun E hE => ?_
        obtain ⟨h, h', ⟨l, s1, s2, I, hf, e1, e2, rfl, hsaid⟩, hF, hfr, hrl⟩ := hE' E fun p hp => hE p (by
          rcases (hT.a p).1 hp with hp1 | ⟨g1, g2⟩
          · exact hal p hp1
          · have g2 : p < idD hs ops nx0 i + takD hs ops i := g2
            rcases hid with ⟨hz, e⟩ | ⟨_, e⟩
            · omega
            · rw [e] at g1 g2
              exact Or.inr ⟨i, hlt, hDi', nwD_iff.2 ⟨g1, g2⟩⟩)
        refine ⟨l, ?_, hf⟩
        have hc := hcont I e1 e2
        have hmer : ∀ p, p ∈ WD hs ops nx0 i → s2.2[p]? = h'[p]? := fun p hp => by
          rw [hsaid.mer, mergeG_get hsaid.len, Nat.zero_add, if_pos hp]
        have hat := fun p hp => I.at_ S hd hlt hDi hwt e1 (p := p) hp
        -- entries that the operation looked at
        have hin : ∀ p x, p ∈ TD hs ops nx0 i → contN hs ops nx0 l (fun k => (listed.setIfInBounds i true).getD k false) p ops.size = some x → ∃ y, h'[p]? = some y ∧ y.rd = x.rd ∧ y.fp = x.fp ∧ (∀ ft w0 w, y.Holds ft w0 w → x.Holds ft w0 w) := fun p x hp hx => by
          by_cases hpw : p ∈ WD hs ops nx0 i
          · rw [(hc p).1 hpw, hmer p hpw] at hx
            exact ⟨x, hx, rfl, rfl, fun _ _ _ h => h⟩
          · rw [(hc p).2 hpw, hat p hp] at hx
            have hpa : p ∈ acD hs ops i := by
              unfold TD at hp
              rcases List.mem_append.1 hp with hp | hp
              · exact hp
              · exact absurd (List.mem_append_right _ hp) hpw
            obtain ⟨y, x', h1, h2, h3, h4, h5⟩ := hsaid.same p hpa hpw
            rw [h2] at hx
            obtain rfl := Option.some.inj hx
            exact ⟨y, h1, h3, h4, h5⟩
        have hout : ∀ p x, p ∉ TD hs ops nx0 i → contN hs ops nx0 l (fun k => (listed.setIfInBounds i true).getD k false) p ops.size = some x → contN hs ops nx0 l (fun i => listed.getD i false) p ops.size = some x := fun p x hp hx => by
          rw [← (hc p).2 fun h => hp (hWT p h)]
          exact hx
        have hold : ∀ (p : Nat) (y : Bx) (b : Nat), h'[p]? = some y → y.rd b → w.heap.size ≤ b ∨ ∃ j x0, j ∈ TD hs ops nx0 i ∧ contN hs ops nx0 l (fun i => listed.getD i false) j ops.size = some x0 ∧ x0.rd b ∧ (y.fp b → x0.fp b) := fun p y b hy hb => by
          rcases hrl p y b hy hb with h | ⟨j, x0, h1, h2, h3⟩
          · exact Or.inl h
          · rcases onlyG_get h1 with ⟨h4, h5⟩ | ⟨_, rfl⟩
            · rw [Nat.zero_add] at h4
              have hj : j ∈ TD hs ops nx0 i := List.mem_append_left _ h4
              exact Or.inr ⟨j, x0, hj, (hat j hj).trans h5, h2, h3⟩
            · cases h2
        refine I.put S hlt hDfun hDi' e2 hsaid.put hF.keep (fun p x hx => ?_) fun p q x y hpq hx hy b hb hyb => ?_
        · by_cases hp : p ∈ TD hs ops nx0 i
          · obtain ⟨y, h1, _, _, h4⟩ := hin p x hp hx
            exact h4 _ _ _ (hF.all p y h1)
          · have hx0 := hout p x hp hx
            refine (I.box p x hx0).to (fun b hb => hfr b ((I.box p x hx0).lt hb) fun k z hz hzb => ?_) hsize
            rcases onlyG_get hz with ⟨h1, h2⟩ | ⟨_, rfl⟩
            · rw [Nat.zero_add] at h1
              have hkT : k ∈ TD hs ops nx0 i := List.mem_append_left _ h1
              exact I.ne k p z x (fun e => hp (by rw [← e]; exact hkT)) ((hat k hkT).trans h2) hx0 b hzb hb
            · cases hzb
        · by_cases hp : p ∈ TD hs ops nx0 i
          · obtain ⟨x', h1, h2, h3, _⟩ := hin p x hp hx
            by_cases hq : q ∈ TD hs ops nx0 i
            · obtain ⟨y', g1, g2, g3, _⟩ := hin q y hq hy
              exact hF.ne p q x' y' h1 g1 hpq b ((congrFun h3 b).mpr hb) ((congrFun g2 b).mpr hyb)
            · have hy0 := hout q y hq hy
              rcases hold p x' b h1 ((congrFun h2 b).mpr (fp_rd hb)) with h | ⟨j, x0, k0, k1, k2, k3⟩
              · have := (I.box q y hy0).lt hyb
                omega
              · exact I.ne j q x0 y (fun e => hq (by rw [← e]; exact k0)) k1 hy0 b (k3 ((congrFun h3 b).mpr hb)) hyb
          · have hx0 := hout p x hp hx
            by_cases hq : q ∈ TD hs ops nx0 i
            · obtain ⟨y', g1, g2, g3, _⟩ := hin q y hq hy
              rcases hold q y' b g1 ((congrFun g2 b).mpr hyb) with h | ⟨j, y0, k0, k1, k2, k3⟩
              · have := (I.box p x hx0).lt (fp_rd hb)
                omega
              · exact I.ne p j x y0 (fun e => hp (by rw [e]; exact k0)) hx0 k1 b hb k2
            · exact I.ne p q x y hpq hx0 (hout q y hq hy) b hb hyb
/-- A region that draws its order, carried out once. -/
def exD (n : Nat) (P : Program) (E : Sup) (hs : List (Nat × Hint)) (ops : Array Oper) (T : Sl) (h : List Bx) (nx0 : Nat) : Cl (Sl × List Bx) :=
  match drawOk hs ops nx0 && Nat.ble h.length nx0 with
  | true => bindC (seqD n P E hs ops nx0 ops.size 0 (T, h ++ List.replicate (nxD hs ops nx0 ops.size - h.length) noBx)) fun l => match l[ops.size]? with
    | some s => some ([], s)
    | none => none
  | false => none
theorem exD_sound {ρ : Type} {n : Nat} {P : Program} {ops : Array Oper} {hs : List (Nat × Hint)} {nx0 id : Nat} {K : Sup → Sl × List Bx → Cl ρ} {w0 : World} {ft : List Nat} {Q : Exit → Act → World → Prop} (hm : P.follows .mixedOrders = true) (hh : HintsOk P ft w0 hs) {β : Sup} {a : Act} {w : World}
    (hyp : Fam n ft w0 nx0 β a w (fun E T h => ∃ d, Goods (bindC (exD n P E hs ops T h nx0) (K E)) d))
    (hK : ∀ β' a' w', Fam n ft w0 (nxD hs ops nx0 ops.size) β' a' w' (fun E T h => ∃ d, Goods (K E (T, h)) d) → Q .normal a' w') : (Code.region id ops true).wp P Q a w := by
  have hget : ∀ E, Agr (· < nx0) β E → ∃ T h, Has n T a ∧ Fits ft w0 h w ∧ drawOk hs ops nx0 = true ∧ h.length ≤ nx0 ∧ ∃ l, Goods (seqD n P E hs ops nx0 ops.size 0 (T, h ++ List.replicate (nxD hs ops nx0 ops.size - h.length) noBx)) l ∧ ∀ s, l[ops.size]? = some s → ∃ d, Goods (K E s) d := fun E hE => by
    obtain ⟨T, h, hT, hF, d, hg⟩ := hyp E hE
    obtain ⟨s, hs1, hs2⟩ := hg.bind
    cases hb : drawOk hs ops nx0 && Nat.ble h.length nx0 with
    | false => simp only [exD, hb] at hs1; exact hs1.no.elim
    | true =>
      simp only [exD, hb] at hs1
      rw [Bool.and_eq_true] at hb
      obtain ⟨l, hl1, hl2⟩ := hs1.bind
      refine ⟨T, h, hT, hF, hb.1, Nat.le_of_ble_eq_true hb.2, l, hl1, fun s' hs' => ?_⟩
      rw [hs'] at hl2
      have := hl2.ret
      subst this
      exact ⟨d, hs2⟩
  obtain ⟨_, _, _, _, hok, _, _⟩ := hget β (Agr.refl _ _)
  have S := drawOk_spec hs ops nx0 hok
  refine wp_region_any hm (drawn_sound hh S hK ops.size (Array.replicate ops.size false) β a _ (by simp) (by simp) (fun i hi => by
    have hi' : (Array.replicate ops.size false).getD i false = true := hi
    rw [getD_replicate_false] at hi'
    cases hi') fun E hE => ?_)
  obtain ⟨T, h, hT, hF, _, hlen, l, hl, hf⟩ := hget E fun p hp => hE p (Or.inl hp)
  obtain ⟨e1, e2, e3⟩ := seqD_spec _ _ _ _ hl
  have hc : ∀ p m, contN hs ops nx0 l (fun i => (Array.replicate ops.size false).getD i false) p m = (h ++ List.replicate (nxD hs ops nx0 ops.size - h.length) noBx)[p]? := fun p m => by
    induction m with
    | zero => simp only [contN, e1, Option.bind_some]
    | succ m ih =>
      simp only [contN]
      rw [getD_replicate_false]
      exact ih
  have hpad : ∀ p x, (h ++ List.replicate (nxD hs ops nx0 ops.size - h.length) noBx)[p]? = some x → h[p]? = some x ∨ x = noBx := fun p x hx => by
    rw [List.getElem?_append] at hx
    split at hx
    · exact Or.inl hx
    · exact Or.inr (List.eq_of_mem_replicate (List.mem_of_getElem? hx))
  refine ⟨l, ⟨⟨e2, fun j hj => ?_⟩, hT.d, hT.n, fun j d v s _ hDj => ?_, fun k v s hs' hv _ => ?_, hF.keep.drew, fun p x hx => ?_, fun p q x y hpq hx hy b hb hyb => ?_⟩, hf⟩
  · obtain ⟨s1, s2, g1, g2, g3⟩ := e3 j hj
    exact ⟨s1, s2, g1, g2, by rw [Nat.zero_add] at g3; exact g3⟩
  · have hDj' : (Array.replicate ops.size false).getD j false = true := hDj
    rw [getD_replicate_false] at hDj'
    cases hDj'
  · rw [e1] at hs'
    obtain rfl := Option.some.inj hs'
    exact hT.t k v hv
  · rw [hc] at hx
    rcases hpad p x hx with hx | rfl
    · exact (hF.drew).all p x hx
    · rfl
  · rw [hc] at hx hy
    rcases hpad p x hx with hx | rfl
    · rcases hpad q y hy with hy | rfl
      · exact hF.ne p q x y hx hy hpq b hb hyb
      · cases hyb
    · cases hb
end Go.Proofs.YtbhnjaajkolklaaGreat
