/- A function's text, carried out by the kernel: regions, the code. -/
import Derived.Test.YtbhnjaajkolklaaEz
set_option linter.all false
namespace Go.Proofs.Ytbhnjaajkolklaa
open Go.ChangeShapes Go.WideShapes Go.ChangeAt Go.RowKit Go.Deep

def bindC {α ρ : Type} (r : Cl α) (f : α → Cl ρ) : Cl ρ := match r with
  | some (l, a) => match f a with
    | some (l', b) => some (l ++ l', b)
    | none => none
  | none => none
theorem Goods.bind {α ρ : Type} {r : Cl α} {f : α → Cl ρ} {d : ρ} (h : Goods (bindC r f) d) : ∃ x, Goods r x ∧ Goods (f x) d := by
  obtain ⟨L, hL, hA⟩ := h
  cases r with
  | none => cases hL
  | some q =>
    obtain ⟨l, a⟩ := q
    cases hf : f a with
    | none => simp only [bindC, hf] at hL; cases hL
    | some q' =>
      obtain ⟨l', b⟩ := q'
      simp only [bindC, hf, Option.some.injEq, Prod.mk.injEq] at hL
      obtain ⟨rfl, rfl⟩ := hL
      exact ⟨a, ⟨l, rfl, hA.app.1⟩, ⟨l', hf, hA.app.2⟩⟩
def wantedT (ops : Array Oper) (T : Sl) (o : Oper) : Option Bool :=
  match o.guard with
  | none => some true
  | some (g, want) => match (ops[g]?).bind (·.dst) with
    | some d => match find T d with
      | some (.bool b) => some (b == want)
      | some (.tuple _) => some false
      | _ => none
    | none => none
theorem wanted_of {ops : Array Oper} {T : Sl} {o : Oper} {b : Bool} {a : Act} (hb : wantedT ops T o = some b) (h : ∀ g want d v, o.guard = some (g, want) → (ops[g]?).bind (·.dst) = some d → find T d = some v → a.tmps[d]? = some v) : Region.wanted o (yielded ops a.tmps) = b := by
  unfold wantedT at hb
  unfold Region.wanted
  split at hb
  · rename_i hg
    simp only [hg]
    exact Option.some.inj hb
  · rename_i g want hg
    simp only [hg]
    split at hb
    · rename_i d hd
      split at hb
      · rename_i c hc
        have := h g want d _ hg hd hc
        have hy : yielded ops a.tmps g = some c := by
          unfold yielded
          rw [hd]
          simp [this]
        rw [hy]
        rw [← Option.some.inj hb]
        cases c <;> cases want <;> rfl
      · rename_i c hc
        have := h g want d _ hg hd hc
        have hy : yielded ops a.tmps g = none := by
          unfold yielded
          rw [hd]
          simp [this]
        rw [hy]
        rw [← Option.some.inj hb]
        cases want <;> rfl
      · cases hb
    · cases hb
def hintAt : List (Nat × Hint) → Nat → Option Hint
  | [], _ => none
  | (i, h) :: l, j => match Nat.beq i j with
    | true => some h
    | false => hintAt l j
def HintsOk (P : Program) (ft : List Nat) (w0 : World) : List (Nat × Hint) → Prop
  | [] => True
  | p :: l => p.2.Ok P ft w0 ∧ HintsOk P ft w0 l
theorem HintsOk.at {P : Program} {ft : List Nat} {w0 : World} : ∀ {l : List (Nat × Hint)} {j : Nat} {h : Hint}, HintsOk P ft w0 l → hintAt l j = some h → h.Ok P ft w0
  | [], _, _, _, h => by cases h
  | (i, g) :: l, j, h, ho, he => by
    simp only [hintAt] at he
    split at he
    · obtain rfl := Option.some.inj he
      exact ho.1
    · exact HintsOk.at ho.2 he
/-- The hints' obligations, and what comes behind them. -/
def OkL (P : Program) (ft : List Nat) (w0 : World) (X : Prop) : List (Nat × Hint) → Prop
  | [] => X
  | (_, .at _) :: l => OkL P ft w0 X l
  | (_, h) :: l => h.Ok P ft w0 ∧ OkL P ft w0 X l
theorem OkL.out {P : Program} {ft : List Nat} {w0 : World} {X : Prop} : ∀ {l : List (Nat × Hint)}, OkL P ft w0 X l → HintsOk P ft w0 l ∧ X
  | [], h => ⟨trivial, h⟩
  | (i, g) :: l, h => by
    cases g with
    | «at» q => exact ⟨⟨trivial, (OkL.out (l := l) h).1⟩, (OkL.out (l := l) h).2⟩
    | _ => exact ⟨⟨h.1, (OkL.out (l := l) h.2).1⟩, (OkL.out (l := l) h.2).2⟩
/-- An access, in short. -/
def a1 (j i c : Nat) : Nat × Hint := (j, .at [(i, c, 1)])
def aN (j i c n : Nat) : Nat × Hint := (j, .at [(i, c, n)])
/-- A region in its order. -/
def exL (n : Nat) (P : Program) (E : Sup) (ops : Array Oper) (hs : List (Nat × Hint)) : List Oper → Nat → Sl → List Bx → Nat → Cl (Sl × List Bx)
  | [], _, T, h, _ => some ([], T, h)
  | o :: rest, j, T, h, nx => match wantedT ops T o with
    | none => none
    | some false => match putT n T o.dst undef with
      | some T' => exL n P E ops hs rest (j + 1) T' h (nx + takes o (hintAt hs j))
      | none => none
    | some true => match (accOf (hintAt hs j)).all (Nat.blt · nx) with
      | false => none
      | true => bindC (exOp P E nx nx o (hintAt hs j) T h) fun d => match putT n T o.dst d.1 with
        | some T' => exL n P E ops hs rest (j + 1) T' d.2 (nx + takes o (hintAt hs j))
        | none => none
def nxL (hs : List (Nat × Hint)) : List Oper → Nat → Nat → Nat
  | [], _, nx => nx
  | o :: rest, j, nx => nxL hs rest (j + 1) (nx + takes o (hintAt hs j))
theorem Took.lt {A : Nat → Prop} {β : Sup} {nx k : Nat} {A' : Nat → Prop} {β' : Sup} (h : Took A β nx k A' β') (hA : ∀ i, A i ↔ i < nx) : ∀ i, A' i ↔ i < nx + k := fun i => by
  rw [h.a, hA]
  omega
/-- What is known of a state, for all numbers. -/
def Fam (n : Nat) (ft : List Nat) (w0 : World) (nx : Nat) (β : Sup) (a : Act) (w : World) (G : Sup → Sl → List Bx → Prop) : Prop :=
  ∀ E, Agr (· < nx) β E → ∃ T h, Has n T a ∧ Fits ft w0 h w ∧ G E T h
theorem exL_sound {ρ : Type} {n : Nat} {P : Program} {ops : Array Oper} {hs : List (Nat × Hint)} {K : Sup → Sl × List Bx → Cl ρ} {w0 : World} {ft : List Nat} {Q : Exit → Act → World → Prop} (hh : HintsOk P ft w0 hs) :
    ∀ (rest : List Oper) (j nx : Nat) (β : Sup) (a : Act) (w : World), Fam n ft w0 nx β a w (fun E T h => ∃ d, Goods (bindC (exL n P E ops hs rest j T h nx) (K E)) d) →
      (∀ β' a' w', Fam n ft w0 (nxL hs rest j nx) β' a' w' (fun E T h => ∃ d, Goods (K E (T, h)) d) → Q .normal a' w') → wpList P ops Q rest a w := by
  intro rest
  induction rest with
  | nil =>
    intro j nx β a w hyp hK
    refine hK β a w fun E hE => ?_
    obtain ⟨T, h, h1, h2, d, h3⟩ := hyp E hE
    obtain ⟨x, hx, h3⟩ := h3.bind
    have := hx.ret
    subst this
    exact ⟨T, h, h1, h2, d, h3⟩
  | cons o rest ih =>
    intro j nx β a w hyp hK
    unfold wpList
    -- what each choice of numbers says
    have hget : ∀ E, Agr (· < nx) β E → ∃ T h, Has n T a ∧ Fits ft w0 h w ∧ ((wantedT ops T o = some false ∧ ∃ T' d, putT n T o.dst undef = some T' ∧ Goods (bindC (exL n P E ops hs rest (j + 1) T' h (nx + takes o (hintAt hs j))) (K E)) d) ∨
        (wantedT ops T o = some true ∧ (∀ i ∈ accOf (hintAt hs j), i < nx) ∧ ∃ x T' d, Goods (exOp P E nx nx o (hintAt hs j) T h) x ∧ putT n T o.dst x.1 = some T' ∧ Goods (bindC (exL n P E ops hs rest (j + 1) T' x.2 (nx + takes o (hintAt hs j))) (K E)) d)) := fun E hE => by
      obtain ⟨T, h, h1, h2, d, h3⟩ := hyp E hE
      refine ⟨T, h, h1, h2, ?_⟩
      obtain ⟨x, hx, h3⟩ := h3.bind
      cases hw : wantedT ops T o with
      | none => simp only [exL, hw] at hx; exact hx.no.elim
      | some b =>
        simp only [exL, hw] at hx
        cases b with
        | false =>
          simp only at hx
          cases hp : putT n T o.dst undef with
          | none => simp only [hp] at hx; exact hx.no.elim
          | some T' =>
            simp only [hp] at hx
            obtain ⟨L, e1, e2⟩ := hx
            obtain ⟨L', e3, e4⟩ := h3
            refine Or.inl ⟨rfl, T', d, rfl, L ++ L', ?_, ?_⟩
            · simp only [bindC, e1, e3]
            · clear e1 e3
              induction L with
              | nil => exact e4
              | cons p L ihL => exact ⟨e2.1, ihL e2.2⟩
        | true =>
          simp only at hx
          cases ha : (accOf (hintAt hs j)).all (Nat.blt · nx) with
          | false => simp only [ha] at hx; exact hx.no.elim
          | true =>
            simp only [ha] at hx
            obtain ⟨y, hy, hx⟩ := hx.bind
            cases hp : putT n T o.dst y.1 with
            | none => simp only [hp] at hx; exact hx.no.elim
            | some T' =>
              simp only [hp] at hx
              obtain ⟨L, e1, e2⟩ := hx
              obtain ⟨L', e3, e4⟩ := h3
              refine Or.inr ⟨rfl, fun i hi => by simpa [Nat.blt_eq] using List.all_eq_true.1 ha i hi, y, T', d, hy, hp, L ++ L', ?_, ?_⟩
              · simp only [bindC, e1, e3]
              · clear e1 e3
                induction L with
                | nil => exact e4
                | cons p L ihL => exact ⟨e2.1, ihL e2.2⟩
    have hwant : ∀ {T b}, Has n T a → wantedT ops T o = some b → Region.wanted o (yielded ops a.tmps) = b := fun hT hb => wanted_of hb fun _ _ d v _ _ hf => hT.t d v hf
    obtain ⟨T0, h0, t0, f0, c0⟩ := hget β (Agr.refl _ _)
    rcases c0 with ⟨w0', _⟩ | ⟨w0', acc0, _⟩
    · rw [hwant t0 w0', if_neg (by decide)]
      -- left out: its number is nobody's
      refine ih (j + 1) (nx + takes o (hintAt hs j)) β _ w (fun E hE => ?_) hK
      obtain ⟨T, h, h1, h2, h3⟩ := hget E fun i hi => hE i (Nat.lt_of_lt_of_le hi (Nat.le_add_right _ _))
      rcases h3 with ⟨_, T', d, hp, hg⟩ | ⟨hw, _⟩
      · exact ⟨T', h, h1.put hp, h2, d, hg⟩
      · have := (hwant h1 hw).symm.trans (hwant t0 w0')
        cases this
    · rw [hwant t0 w0', if_pos rfl]
      refine Or.inl ?_
      refine exOp_sound (n0 := nx) (nx := nx) (A := (· < nx)) (β := β) (hint := hintAt hs j) (Φ := fun E h x => ∃ T' d, (∃ T, Has n T a ∧ putT n T o.dst x.1 = some T') ∧ Goods (bindC (exL n P E ops hs rest (j + 1) T' x.2 (nx + takes o (hintAt hs j))) (K E)) d) (fun h he => hh.at he) (fun i hi => hi) acc0 (Nat.lt_irrefl nx) (fun i h1 _ h3 => Nat.lt_irrefl _ (Nat.lt_of_lt_of_le h3 h1)) (fun E hE => ?_) fun A' β' v w' hT hs' _ hE' => ?_
      · obtain ⟨T, h, h1, h2, h3⟩ := hget E hE
        rcases h3 with ⟨hw, _⟩ | ⟨_, _, x, T', d, hx, hp, hg⟩
        · have := (hwant h1 hw).symm.trans (hwant t0 w0')
          cases this
        · exact ⟨T, h, x, fun hk => op_eval hk fun y _ hy => h1.eval hy, hx, h2, T', d, ⟨T, h1, hp⟩, hg⟩
      · have hA := hT.lt (fun i => Iff.rfl)
        refine ih (j + 1) (nx + takes o (hintAt hs j)) β' _ w' (fun E hE => ?_) hK
        obtain ⟨h, h', ⟨T', d, ⟨T, hT1, hp⟩, hg⟩, hF, _, _⟩ := hE' E fun i hi => hE i ((hA i).1 hi)
        exact ⟨T', h', hT1.put hp, hF, d, hg⟩
end Go.Proofs.Ytbhnjaajkolklaa
