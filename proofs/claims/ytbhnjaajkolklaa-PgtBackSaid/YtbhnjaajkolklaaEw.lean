/- A function's text, carried out by the kernel: the code. -/
import Derived.Test.YtbhnjaajkolklaaEd
set_option linter.all false
namespace Go.Proofs.Ytbhnjaajkolklaa
open Go.ChangeShapes Go.WideShapes Go.ChangeAt Go.RowKit Go.Deep

abbrev BL := List (Nat × (Env → Bx))
/-- What is said of a function's text. r: of a region; split: a test that is open; fin: what is told; out: an end of a piece; cc: a piece with a contract of its own. -/
inductive Itm where
  | code (c : Code)
  | blk (id : Nat)
  | lo (c : Code)
inductive Hs where
  | r (id : Nat) (l : List (Nat × Hint)) (k : Hs)
  | split (b : Bool) (x y : Hs)
  | fin (l : List (Nat × Nat × Nat)) (v : Env → Value) (bs : BL)
  | out (e : Option Nat) (T : Env → Sl) (bs : BL)
  | cc (c : Code) (T : Env → Sl) (pre : BL) (e : Option Nat) (T' : Env → Sl) (post : BL) (i : Nat) (new : List (Env → FV)) (k : Hs)
  | lp (ks : List Itm) (c : Code) (T : Env → Sl) (bs : BL)
  | un (k : Hs)
/-- What is left to be done is what is told. -/
def clI {ρ : Type} : List Itm → List Itm → Cl ρ → Cl ρ
  | [], [], r => r
  | .code c :: k, .code c' :: k', r => clc (.c c) (.c c') (clI k k' r)
  | .blk i :: k, .blk j :: k', r => match Nat.beq i j with
    | true => clI k k' r
    | false => none
  | _, _, _ => none
theorem clI_sound {ρ : Type} {r : Cl ρ} {d : ρ} : ∀ {k k' : List Itm}, Goods (clI k k' r) d → k = k' ∧ Goods r d
  | [], [], h => ⟨rfl, h⟩
  | [], _ :: _, h => h.no.elim
  | .lo _ :: _, [], h => h.no.elim
  | .lo _ :: _, .code _ :: _, h => h.no.elim
  | .lo _ :: _, .blk _ :: _, h => h.no.elim
  | .lo _ :: _, .lo _ :: _, h => h.no.elim
  | .code _ :: _, .lo _ :: _, h => h.no.elim
  | .blk _ :: _, .lo _ :: _, h => h.no.elim
  | .code _ :: _, [], h => h.no.elim
  | .blk _ :: _, [], h => h.no.elim
  | .code _ :: _, .blk _ :: _, h => h.no.elim
  | .blk _ :: _, .code _ :: _, h => h.no.elim
  | .code c :: k, .code c' :: k', h => by
    obtain ⟨h1, h2⟩ := Goods.clc h
    injection h1 with h1
    obtain ⟨h3, h4⟩ := clI_sound h2
    exact ⟨by rw [h1, h3], h4⟩
  | .blk i :: k, .blk j :: k', h => by
    simp only [clI] at h
    cases hb : Nat.beq i j with
    | false => simp only [hb] at h; exact h.no.elim
    | true =>
      simp only [hb] at h
      obtain ⟨h3, h4⟩ := clI_sound h
      exact ⟨by rw [Nat.eq_of_beq_eq_true hb, h3], h4⟩
def popTo (id : Nat) : List Itm → Option (List Itm)
  | [] => none
  | .code _ :: k => popTo id k
  | .lo _ :: k => popTo id k
  | .blk id' :: k => match Nat.beq id id' with
    | true => some k
    | false => popTo id k
def resL (T : Sl) : List ResultVar → Sem (List Value)
  | [] => pure []
  | r :: l => do
    let v ← (match r with
      | .tmp t => pure (evT T (.tmp t))
      | .cell a t => do loadVar t (← asAddr (evT T (.tmp a))))
    let vs ← resL T l
    pure (v :: vs)
def resT (fn : Func) (T : Sl) : Sem Value := do
  let l ← resL T fn.results.toList
  pure (match l with
    | [v] => v
    | l => .tuple l.toArray)
def knownR (T : Sl) : ResultVar → Bool
  | .tmp t => (find T t).isSome
  | .cell a _ => (find T a).isSome
theorem Has.getD {n : Nat} {T : Sl} {a : Act} (h : Has n T a) {k : Nat} (hk : (find T k).isSome = true) : a.tmps.getD k undef = evT T (.tmp k) := by
  have := h.eval (x := .tmp k) hk
  simpa [Act.eval] using this
theorem Has.res {n : Nat} {T : Sl} {a : Act} (h : Has n T a) {fn : Func} (hk : fn.results.toList.all (knownR T) = true) : results fn a.tmps = resT fn T := by
  have key : ∀ l : List ResultVar, l.all (knownR T) = true → (l.mapM (m := Sem) fun
      | .tmp t => pure (a.tmps.getD t undef)
      | .cell b t => do loadVar t (← asAddr (a.tmps.getD b undef))) = resL T l := by
    intro l
    induction l with
    | nil => intro _; rfl
    | cons r l ih =>
      intro hl
      rw [List.all_cons, Bool.and_eq_true] at hl
      rw [List.mapM_cons, ih hl.2]
      cases r with
      | tmp t => simp only [resL, h.getD hl.1]
      | cell b t => simp only [resL, h.getD hl.1]
  unfold results resT
  rw [Array.mapM_eq_mapM_toList]
  refine Eq.trans (congrArg (fun m : Sem (List Value) => (do
    let vs ← List.toArray <$> m
    pure (if h : vs.size = 1 then vs[0] else .tuple vs) : Sem Value)) (key _ hk)) ?_
  simp only [map_eq_pure_bind, bind_assoc, pure_bind]
  congr 1
  funext l
  match l with
  | [] => rfl
  | [v] => rfl
  | v :: u :: l => rfl
/-- What only reads. -/
def sread {ρ : Type} (P : Program) (h : List Bx) {α : Type} : Sem α → List (Nat × Nat × Nat) → (α → Cl ρ) → Cl ρ
  | .pure a, _, K => K a
  | .load _ a k, q, K =>
    match next q with
    | some (i, c, l) => match h[i]? with
      | some x => match x.cs[c]? with
        | some v => cl (.pointer (some a)) (.pointer (some ⟨x.b, x.o + c, none⟩)) (sread P h (k v) l K)
        | none => none
      | none => none
    | none => none
  | .program k, q, K => sread P h (k P) q K
  | .mark _ k, q, K => sread P h k q K
  | _, _, _ => none
theorem sread_sound {ρ : Type} {P : Program} {α : Type} {ft : List Nat} {w0 w : World} {h : List Bx} {K : α → Cl ρ} {d : ρ} (hF : Fits ft w0 h w) (m : Sem α) : ∀ q, Goods (sread P h m q K) d → ∃ a, m.run P w = .ok a w ∧ Goods (K a) d := by
  induction m with
  | pure a => intro q hg; exact ⟨a, rfl, hg⟩
  | load md a k ih =>
    intro q hg
    cases hn : next q with
    | none => simp only [sread, hn] at hg; exact hg.no.elim
    | some q' =>
      obtain ⟨i, c, l⟩ := q'
      cases hi : h[i]? with
      | none => simp only [sread, hn, hi] at hg; exact hg.no.elim
      | some x =>
        cases hc : x.cs[c]? with
        | none => simp only [sread, hn, hi, hc] at hg; exact hg.no.elim
        | some v =>
          simp only [sread, hn, hi, hc] at hg
          obtain ⟨he, hg1⟩ := hg.cl
          injection he with he
          injection he with he
          subst he
          have hw := hF.cell hi hc
          have : Sem.run P (.load md ⟨x.b, x.o + c, none⟩ k) w = (k v).run P w := by simp only [Sem.run, hw]
          rw [this]
          exact ih v l hg1
  | program k ih => intro q hg; exact ih P q hg
  | mark md k ih => intro q hg; exact ih q hg
  | _ => intro q hg; exact hg.no.elim
/-- Slots that are wanted hold what is told. -/
def clT {ρ : Type} (T : Sl) : Sl → Cl ρ → Cl ρ
  | [], r => r
  | (k, v) :: l, r => match find T k with
    | some u => cl u v (clT T l r)
    | none => none
theorem clT_sound {ρ : Type} {T : Sl} {d : ρ} : ∀ (S : Sl) (r : Cl ρ), Goods (clT T S r) d → Goods r d ∧ ∀ p ∈ S, find T p.1 = some p.2
  | [], r, h => ⟨h, fun p hp => by cases hp⟩
  | (k, v) :: l, r, h => by
    simp only [clT] at h
    cases hk : find T k with
    | none => simp only [hk] at h; exact h.no.elim
    | some u =>
      simp only [hk] at h
      obtain ⟨e, h1⟩ := h.cl
      subst e
      obtain ⟨h2, h3⟩ := clT_sound l r h1
      refine ⟨h2, fun p hp => ?_⟩
      rcases List.mem_cons.1 hp with rfl | hp
      · exact hk
      · exact h3 p hp
theorem find_mem : ∀ {S : Sl} {k : Nat} {v : Value}, find S k = some v → (k, v) ∈ S
  | [], _, _, h => by cases h
  | (i, u) :: l, k, v, h => by
    simp only [find] at h
    split at h
    · rename_i hb
      have := Nat.eq_of_beq_eq_true hb
      subst this
      obtain rfl := Option.some.inj h
      exact List.mem_cons_self ..
    · exact List.mem_cons_of_mem _ (find_mem h)
theorem Has.sub {n : Nat} {T S : Sl} {a : Act} (h : Has n T a) (hs : ∀ p ∈ S, find T p.1 = some p.2) : Has n S a := ⟨h.d, h.n, fun k v hk => h.t k v (hs _ (find_mem hk))⟩
def exFin (P : Program) (fn : Func) (E : Sup) (nx : Nat) (T : Sl) (h : List Bx) (l : List (Nat × Nat × Nat)) (v : Env → Value) (bs : BL) : Cl Unit :=
  match fn.results.toList.all (knownR T) with
  | true => sread P h (resT fn T) l fun x => cl x (v (selE [] nx E)) (clPre h (selE [] nx E) bs (some ([], ())))
  | false => none
def exOut (E : Sup) (nx : Nat) (T : Sl) (h : List Bx) (S : Env → Sl) (bs : BL) : Cl Unit :=
  match nodupB (bs.map (·.1)) with
  | true => clT T (S (selE [] nx E)) (clPre h (selE [] nx E) bs (some ([], ())))
  | false => none
/-- Behind a piece with a contract of its own. -/
def ccEnd {ρ : Type} (new : List (Env → FV)) (en : Env) (nx : Nat) (q : Sup) (h2 : List Bx) (K : List Bx → Cl ρ) : Cl ρ := match putNews q en new nx h2 with
  | some h3 => K h3
  | none => none
abbrev Rec := List Itm → Sl → List Bx → Nat → Hs → Cl Unit
def exTest (rec : Rec) (v : Value) (x y : Code) (k : List Itm) (T : Sl) (h : List Bx) (nx : Nat) : Hs → Cl Unit
  | .split b hx hy => cl v (.bool b) (bindC (rec (.code x :: k) T h nx hx) fun _ => rec (.code y :: k) T h nx hy)
  | hs => match v with
    | .bool true => rec (.code x :: k) T h nx hs
    | .bool false => rec (.code y :: k) T h nx hs
    | _ => none
def exLast (E : Sup) (id nx : Nat) (T : Sl) (h : List Bx) : Hs → Cl Unit
  | .out (some i) S bs => match Nat.beq i id with
    | true => exOut E nx T h S bs
    | false => none
  | _ => none
def exReg (n : Nat) (P : Program) (E : Sup) (rec : Rec) (id : Nat) (ops : Array Oper) (k : List Itm) (T : Sl) (h : List Bx) (nx : Nat) : Hs → Cl Unit
  | .r i l hs' => match Nat.beq i id with
    | true => bindC (exL n P E ops l ops.toList 0 T h nx) fun d => rec k d.1 d.2 (nxL l ops.toList 0 nx) hs'
    | false => bindC (exL n P E ops [] ops.toList 0 T h nx) fun d => rec k d.1 d.2 (nxL [] ops.toList 0 nx) (.r i l hs')
  | hs => bindC (exL n P E ops [] ops.toList 0 T h nx) fun d => rec k d.1 d.2 (nxL [] ops.toList 0 nx) hs
def exRegD (n : Nat) (P : Program) (E : Sup) (rec : Rec) (id : Nat) (ops : Array Oper) (k : List Itm) (T : Sl) (h : List Bx) (nx : Nat) : Hs → Cl Unit
  | .r i l hs' => match Nat.beq i id with
    | true => bindC (exD n P E l ops T h nx) fun d => rec k d.1 d.2 (nxD l ops nx ops.size) hs'
    | false => bindC (exD n P E [] ops T h nx) fun d => rec k d.1 d.2 (nxD [] ops nx ops.size) (.r i l hs')
  | hs => bindC (exD n P E [] ops T h nx) fun d => rec k d.1 d.2 (nxD [] ops nx ops.size) hs
def exRet (P : Program) (fn : Func) (E : Sup) (nx : Nat) (T : Sl) (h : List Bx) : Hs → Cl Unit
  | .fin l v bs => exFin P fn E nx T h l v bs
  | _ => none
def exCode (n : Nat) (P : Program) (fn : Func) (E : Sup) (rec : Rec) (c : Code) (k : List Itm) (T : Sl) (h : List Bx) (nx : Nat) (hs : Hs) : Cl Unit := match c with
  | .skip => rec k T h nx hs
  | .seq x y => rec (.code x :: .code y :: k) T h nx hs
  | .block id x => rec (.code x :: .blk id :: k) T h nx hs
  | .exit id => match popTo id k with
    | some k' => rec k' T h nx hs
    | none => exLast E id nx T h hs
  | .cond c x y => match knownX T c with
    | false => none
    | true => exTest rec (evT T c) x y k T h nx hs
  | .region id ops draw => match draw with
    | true => exRegD n P E rec id ops k T h nx hs
    | false => exReg n P E rec id ops k T h nx hs
  | .ret => exRet P fn E nx T h hs
  | _ => none
def exCc (E : Sup) (rec : Rec) (c : Code) (k : List Itm) (T : Sl) (h : List Bx) (nx : Nat) (c' : Code) (S : Env → Sl) (pre : BL) (e : Option Nat) (S' : Env → Sl) (post : BL) (i : Nat) (new : List (Env → FV)) (hs' : Hs) : Cl Unit :=
  match Nat.beq i nx && nodupB (pre.map (·.1)) with
  | false => none
  | true => clc (.c c) (.c c') (clT T (S (selE [] nx E)) (clPre h (selE [] nx E) pre (setAll (envN new (selE [] nx E) nx E) h post fun h2 =>
    ccEnd new (envN new (selE [] nx E) nx E) nx E h2 fun h3 => match e with
      | none => rec k (S' (envN new (selE [] nx E) nx E)) h3 (nx + new.length) hs'
      | some id => match popTo id k with
        | some k' => rec k' (S' (envN new (selE [] nx E) nx E)) h3 (nx + new.length) hs'
        | none => none)))
def exRun (n : Nat) (P : Program) (fn : Func) (top : Bool) (E : Sup) : Nat → Rec
  | 0, _, _, _, _, _ => none
  | _ + 1, [], T, h, nx, hs => match hs with
    | .fin l v bs => match top with
      | true => exFin P fn E nx T h l v bs
      | false => none
    | .out none S bs => exOut E nx T h S bs
    | _ => none
  | m + 1, .blk _ :: k, T, h, nx, hs => exRun n P fn top E m k T h nx hs
  | m + 1, .code (.loop c) :: k, T, h, nx, .cc c' S pre e S' post i new hs' => exCc E (exRun n P fn top E m) (.loop c) k T h nx c' S pre e S' post i new hs'
  | m + 1, .lo c :: k, T, h, nx, hs => match hs with
    | .un hs' => exRun n P fn top E m (.code c :: .lo c :: k) T h nx hs'
    | _ => none
  | m + 1, .code (.loop c) :: k, T, h, nx, .un hs' => exRun n P fn top E m (.code c :: .lo c :: k) T h nx hs'
  | _ + 1, .code (.loop c) :: k, T, h, nx, .lp ks c' S bs => clc (.c (.loop c)) (.c c') (clI k ks (exOut E nx T h S bs))
  | m + 1, .code c :: k, T, h, nx, hs => exCode n P fn E (exRun n P fn top E m) c k T h nx hs
/-- What a piece leaves that has a contract of its own. -/
structure CPost (n : Nat) (ft : List Nat) (w0 : World) (nx : Nat) (pre : BL) (T' : Env → Sl) (post : BL) (new : List (Env → FV)) (E : Env) (W : World) (a' : Act) (w' : World) (q : Sup) : Prop where
  has : Has n (T' (envN new E nx q)) a'
  g : GPost ft w0 nx (fun _ => undef) pre post new E W (.returned undef) w' q
def exitOf : Option Nat → Exit
  | none => .normal
  | some id => .exit id
/-- A loop, at its head. -/
def atLp (P : Program) (c : Code) (Q : Exit → Act → World → Prop) (a : Act) (w : World) : Prop :=
  ∀ (b : Go.Frame) (k : List Item) (cs : List Go.Frame), ∃ e a' w', Q e a' w' ∧ Arrives P (lone (b.at a (.code c :: .inLoop c :: k)) cs w) b k cs e a' w'
theorem atLp.loop {P : Program} {c : Code} {Q : Exit → Act → World → Prop} {a : Act} {w : World} (h : atLp P c Q a w) : (Code.loop c).wp P Q a w := fun b k cs =>
  let ⟨e, a', w', hq, ha⟩ := h b k cs
  ⟨e, a', w', hq, .of_steps (.one step_loop) ha⟩
def wpI (P : Program) (Q : Exit → Act → World → Prop) : List Itm → Exit → Act → World → Prop
  | [], e, a, w => Q e a w
  | .code c :: k, e, a, w => match e with
    | .normal => c.wp P (wpI P Q k) a w
    | e => wpI P Q k e a w
  | .blk id :: k, e, a, w => match e with
    | .exit id' => if id' = id then wpI P Q k .normal a w else wpI P Q k (.exit id') a w
    | e => wpI P Q k e a w
  | .lo c :: k, e, a, w => match e with
    | .normal => atLp P c (wpI P Q k) a w
    | e => wpI P Q k e a w
theorem atLp.round {P : Program} {c : Code} {Q : Exit → Act → World → Prop} {k : List Itm} {a : Act} {w : World} (h : wpI P Q (.code c :: .lo c :: k) .normal a w) : atLp P c (wpI P Q k) a w := fun b k' cs => by
  obtain ⟨e, a₁, w₁, hq, harr⟩ := h b (.inLoop c :: k') cs
  cases e with
  | normal =>
    obtain ⟨e₂, a₂, w₂, hq₂, harr₂⟩ := hq b k' cs
    exact ⟨e₂, a₂, w₂, hq₂, .of_steps (Steps.trans harr (.one step_inLoop)) harr₂⟩
  | exit id => exact ⟨_, a₁, w₁, hq, .pass (x := .inLoop c) rfl (fun _ _ => .inl (by simp)) harr⟩
  | goto l => exact ⟨_, a₁, w₁, hq, .pass (x := .inLoop c) rfl (fun _ _ => .inl (by simp)) harr⟩
  | ret => exact ⟨_, a₁, w₁, hq, .pass (x := .inLoop c) rfl (fun _ _ => .inl (by simp)) harr⟩
  | panic ch => exact ⟨_, a₁, w₁, hq, .pass (x := .inLoop c) rfl (fun _ _ => .inl (by simp)) harr⟩
  | outgrown => exact ⟨_, a₁, w₁, hq, .pass (x := .inLoop c) rfl (fun _ _ => .inl (by simp)) harr⟩
def Hs.Ok (n : Nat) (P : Program) (fn : Func) (ft : List Nat) (w0 : World) (R : Ending → World → Prop) (J : Exit → Act → World → Prop) : Hs → Prop
  | .r _ l k => OkL P ft w0 (k.Ok n P fn ft w0 R J) l
  | .split b x y => (b = true → x.Ok n P fn ft w0 R J) ∧ (b = false → y.Ok n P fn ft w0 R J)
  | .fin _ v bs => ∀ E W, Keep ft w0 W → (∀ p ∈ bs, (p.2 E).Holds ft w0 W) ∧ (nodupB (bs.map (·.1)) = true → Fits ft w0 (bs.map fun p => p.2 E) W) → R (.returned (v E)) W
  | .out e T bs => ∀ E a W, Has n (T E) a → Fits ft w0 (bs.map fun p => p.2 E) W → J (exitOf e) a W
  | .cc c T pre e T' post i new k => (∀ E a W, Has n (T E) a → Fits ft w0 (pre.map fun p => p.2 E) W → c.wp P (fun e' a' w' => (e' = exitOf e ∧ ∃ q, CPost n ft w0 i pre T' post new E W a' w' q) ∨ (e' = .ret ∧ bodyPost P fn R .ret a' w')) a W) ∧ k.Ok n P fn ft w0 R J
  | .lp ks c T bs => ∀ E a W, Has n (T E) a → Fits ft w0 (bs.map fun p => p.2 E) W → ∀ Q : Exit → Act → World → Prop, (∀ a w, bodyPost P fn R .ret a w → Q .ret a w) → (∀ e a w, J (exitOf e) a w → Q (exitOf e) a w) → wpI P Q (.code c :: ks) .normal a W
  | .un k => k.Ok n P fn ft w0 R J
theorem wpI_then {P : Program} {Q : Exit → Act → World → Prop} {c : Code} {k : List Itm} : wpI P Q (.code c :: k) = Exit.then (c.wp P (wpI P Q k)) (wpI P Q k) := by
  funext e a w
  cases e <;> rfl
theorem wpI_blk {P : Program} {Q : Exit → Act → World → Prop} {id : Nat} {k : List Itm} : wpI P Q (.blk id :: k) = Exit.inBlock id (wpI P Q k) := by
  funext e a w
  cases e <;> rfl
theorem wpI_pop {P : Program} {Q : Exit → Act → World → Prop} {id : Nat} {a : Act} {w : World} : ∀ {k k' : List Itm}, popTo id k = some k' → wpI P Q k' .normal a w → wpI P Q k (.exit id) a w
  | [], _, h, _ => by cases h
  | .code _ :: k, k', h, hw => wpI_pop (k := k) h hw
  | .lo _ :: k, k', h, hw => wpI_pop (k := k) h hw
  | .blk id' :: k, k', h, hw => by
    simp only [popTo] at h
    simp only [wpI]
    split at h
    · rename_i hb
      have := Nat.eq_of_beq_eq_true hb
      rw [if_pos this]
      injection h with h
      rw [h]
      exact hw
    · rename_i hb
      rw [if_neg (Nat.ne_of_beq_eq_false hb)]
      exact wpI_pop h hw
theorem wpI_none {P : Program} {Q : Exit → Act → World → Prop} {id : Nat} {a : Act} {w : World} : ∀ {k : List Itm}, popTo id k = none → Q (.exit id) a w → wpI P Q k (.exit id) a w
  | [], _, hw => hw
  | .code _ :: k, h, hw => wpI_none (k := k) h hw
  | .lo _ :: k, h, hw => wpI_none (k := k) h hw
  | .blk id' :: k, h, hw => by
    simp only [popTo] at h
    simp only [wpI]
    split at h
    · cases h
    · rename_i hb
      rw [if_neg (Nat.ne_of_beq_eq_false hb)]
      exact wpI_none h hw
theorem wpI_ret {P : Program} {Q : Exit → Act → World → Prop} {a : Act} {w : World} : ∀ {k : List Itm}, Q .ret a w → wpI P Q k .ret a w
  | [], h => h
  | .code _ :: k, h => wpI_ret (k := k) h
  | .lo _ :: k, h => wpI_ret (k := k) h
  | .blk _ :: k, h => wpI_ret (k := k) h
theorem clc_code {ρ : Type} {c c' : Code} {r : Cl ρ} {d : ρ} (h : Goods (clc (.c c) (.c c') r) d) : c = c' ∧ Goods r d := by
  obtain ⟨h1, h2⟩ := h.clc
  injection h1 with h1
  exact ⟨h1, h2⟩
theorem selE_agr {nx : Nat} {β E : Sup} (h : Agr (· < nx) β E) : selE [] nx E = selE [] nx β := selE_eq fun i hi => hi.elim (fun hi => h i hi) fun hi => by cases hi
theorem exFin_sound {n : Nat} {P : Program} {fn : Func} {w0 : World} {ft : List Nat} {R : Ending → World → Prop} {nx : Nat} {β : Sup} {a : Act} {w : World} {l : List (Nat × Nat × Nat)} {v : Env → Value} {bs : BL}
    (hyp : Fam n ft w0 nx β a w fun E T h => ∃ d, Goods (exFin P fn E nx T h l v bs) d) (hh : ∀ E W, Keep ft w0 W → (∀ p ∈ bs, (p.2 E).Holds ft w0 W) ∧ (nodupB (bs.map (·.1)) = true → Fits ft w0 (bs.map fun p => p.2 E) W) → R (.returned (v E)) W) :
    a.defers = [] ∧ ∃ v, (results fn a.tmps).run P w = .ok v w ∧ R (.returned v) w := by
  obtain ⟨T, h, hT, hF, d, hg⟩ := hyp β (Agr.refl _ _)
  refine ⟨hT.d, ?_⟩
  cases hk : fn.results.toList.all (knownR T) with
  | false =>
    simp only [exFin, hk] at hg
    exact hg.no.elim
  | true =>
    simp only [exFin, hk] at hg
    rw [hT.res hk]
    obtain ⟨x, hx, hg1⟩ := sread_sound hF _ _ hg
    obtain ⟨e, hg2⟩ := hg1.cl
    subst e
    obtain ⟨_, hp⟩ := clPre_sound hF bs _ hg2
    exact ⟨_, hx, hh _ w hF.keep ⟨fun p hpp => (hp p hpp).1, fun hn => hF.part hn hp⟩⟩
theorem exOut_sound {n : Nat} {w0 : World} {ft : List Nat} {nx : Nat} {β : Sup} {a : Act} {w : World} {S : Env → Sl} {bs : BL} {J : Act → World → Prop}
    (hyp : Fam n ft w0 nx β a w fun E T h => ∃ d, Goods (exOut E nx T h S bs) d) (hh : ∀ E a W, Has n (S E) a → Fits ft w0 (bs.map fun p => p.2 E) W → J a W) : J a w := by
  obtain ⟨T, h, hT, hF, d, hg⟩ := hyp β (Agr.refl _ _)
  cases hn : nodupB (bs.map (·.1)) with
  | false => simp only [exOut, hn] at hg; exact hg.no.elim
  | true =>
    simp only [exOut, hn] at hg
    obtain ⟨hg, hs⟩ := clT_sound _ _ hg
    obtain ⟨_, hp⟩ := clPre_sound hF bs _ hg
    exact hh _ a w (hT.sub hs) (hF.part hn hp)
theorem Fam.imp {n : Nat} {ft : List Nat} {w0 : World} {nx : Nat} {β : Sup} {a : Act} {w : World} {G G' : Sup → Sl → List Bx → Prop} (h : Fam n ft w0 nx β a w G) (hi : ∀ E T h, Has n T a → G E T h → G' E T h) : Fam n ft w0 nx β a w G' := fun E hE =>
  let ⟨T, hb, h1, h2, h3⟩ := h E hE
  ⟨T, hb, h1, h2, hi E T hb h1 h3⟩
theorem exRun_sound {n : Nat} {P : Program} {fn : Func} {top : Bool} {w0 : World} {ft : List Nat} {R : Ending → World → Prop} {J Q : Exit → Act → World → Prop} (hm : P.follows .mixedOrders = true)
    (hQr : ∀ a w, bodyPost P fn R .ret a w → Q .ret a w) (hQn : top = true → ∀ a w, bodyPost P fn R .normal a w → Q .normal a w) (hQj : ∀ e a w, J (exitOf e) a w → Q (exitOf e) a w) :
    ∀ (m : Nat) (k : List Itm) (nx : Nat) (β : Sup) (hs : Hs) (a : Act) (w : World), Fam n ft w0 nx β a w (fun E T h => ∃ d, Goods (exRun n P fn top E m k T h nx hs) d) → hs.Ok n P fn ft w0 R J → wpI P Q k .normal a w
  | 0, k, nx, β, hs, a, w, hyp, _ => by
    obtain ⟨T, h, _, _, d, hg⟩ := hyp β (Agr.refl _ _)
    exact hg.no.elim
  | m + 1, [], nx, β, hs, a, w, hyp, hh => by
    obtain ⟨T, h, _, _, d, hg⟩ := hyp β (Agr.refl _ _)
    cases hs with
    | fin l v bs =>
      cases top with
      | false => exact hg.no.elim
      | true => exact hQn rfl a w (exFin_sound hyp hh)
    | out e S bs =>
      cases e with
      | none => exact hQj none a w (exOut_sound hyp hh)
      | some i => exact hg.no.elim
    | _ => exact hg.no.elim
  | m + 1, .blk id :: k, nx, β, hs, a, w, hyp, hh => exRun_sound hm hQr hQn hQj m k nx β hs a w hyp hh
  | m + 1, .lo c :: k, nx, β, hs, a, w, hyp, hh => by
    cases hs with
    | un hs' => exact atLp.round (exRun_sound hm hQr hQn hQj m (.code c :: .lo c :: k) nx β hs' a w hyp hh)
    | _ =>
      obtain ⟨T, h, _, _, d, hg⟩ := hyp β (Agr.refl _ _)
      exact hg.no.elim
  | m + 1, .code c :: k, nx, β, hs, a, w, hyp, hh => by
    show c.wp P (wpI P Q k) a w
    obtain ⟨T0, h0, hT0, hF0, d0, hg0⟩ := hyp β (Agr.refl _ _)
    by_cases hcc : ∃ b c' S pre e S' post i new hs', c = .loop b ∧ hs = .cc c' S pre e S' post i new hs'
    · obtain ⟨b, c', S, pre, e, S', post, i, new, hs', rfl, rfl⟩ := hcc
      obtain ⟨hc, hk⟩ := hh
      cases hi : Nat.beq i nx && nodupB (pre.map (·.1)) with
      | false =>
        simp only [exRun, exCc, hi] at hg0
        exact hg0.no.elim
      | true =>
        simp only [exRun, exCc, hi] at hyp hg0
        rw [Bool.and_eq_true] at hi
        obtain ⟨hi, hnd⟩ := hi
        have hinx := (Nat.eq_of_beq_eq_true hi).symm
        subst hinx
        obtain ⟨e1, hg1⟩ := clc_code hg0
        subst e1
        obtain ⟨hg2, hs2⟩ := clT_sound _ _ hg1
        obtain ⟨hg3, hp3⟩ := clPre_sound hF0 pre _ hg2
        refine wp_mono (hc (selE [] nx β) a w (hT0.sub hs2) (hF0.part hnd hp3)) fun e' a' w' hpost => ?_
        rcases hpost with ⟨rfl, q, hq⟩ | ⟨rfl, hb⟩
        · obtain ⟨hhas, hq⟩ := hq
          generalize hen : selE [] nx β = en at *
          -- all numbers that agree
          have fam : Fam n ft w0 (nx + new.length) (setRun β nx new.length q) a' w' (fun E T h => ∃ d, Goods (match (generalizing := false) e with
              | none => exRun n P fn top E m k T h (nx + new.length) hs'
              | some id => match popTo id k with
                | some k' => exRun n P fn top E m k' T h (nx + new.length) hs'
                | none => none) d) := by
            intro E hE
            have hEβ : Agr (· < nx) β E := fun i hi => by
              have hi : i < nx := hi
              exact (hE i (Nat.lt_of_lt_of_le hi (Nat.le_add_right _ _))).trans (if_neg fun h => by omega)
            have hEn : ∀ i, nx ≤ i → i < nx + new.length → E i = q i := fun i h1 h2 => (hE i h2).trans (if_pos ⟨h1, h2⟩)
            have hEq := envN_eq new en nx hEn
            obtain ⟨T, h, hT, hF, d, hg⟩ := hyp E hEβ
            rw [selE_agr hEβ, hen] at hg
            obtain ⟨_, hg⟩ := clc_code hg
            obtain ⟨hg, _⟩ := clT_sound _ _ hg
            obtain ⟨hg, hp⟩ := clPre_sound hF pre _ hg
            obtain ⟨h2, hg, hf, hcs⟩ := setAll_sound post h hg
            rw [hEq] at hcs hg
            simp only [ccEnd] at hg
            rw [putNews_eq new nx h2 hEn] at hg
            cases hput : putNews q (envN new en nx q) new nx h2 with
            | none => simp only [hput] at hg; exact hg.no.elim
            | some h3 =>
              simp only [hput] at hg
              obtain ⟨_, hF3, _, _⟩ := hF.eff (fun p hpp => (hp p hpp).2) hf hcs (by cases new with | nil => rfl | cons p l => exact Nat.beq_refl nx) hq hput
              exact ⟨_, h3, hhas, hF3, d, hg⟩
          cases e with
          | none => exact exRun_sound hm hQr hQn hQj m k _ _ hs' a' w' fam hk
          | some id =>
            cases hpop : popTo id k with
            | none =>
              obtain ⟨T, h, _, _, d, hg⟩ := fam _ (Agr.refl _ _)
              simp only [hpop] at hg
              exact hg.no.elim
            | some k' =>
              simp only [hpop] at fam
              exact wpI_pop hpop (exRun_sound hm hQr hQn hQj m k' _ _ hs' a' w' fam hk)
        · exact wpI_ret (k := k) (hQr a' w' hb)
    · by_cases hlp : ∃ b ks c' S bs, c = .loop b ∧ hs = .lp ks c' S bs
      · obtain ⟨b, ks, c', S, bs, rfl, rfl⟩ := hlp
        obtain ⟨e1, hg1⟩ := clc_code hg0
        obtain ⟨e2, _⟩ := clI_sound hg1
        subst e1 e2
        exact exOut_sound (J := fun a w => wpI P Q (.code (.loop b) :: k) .normal a w) (hyp.imp fun E T h _ hg => by
          obtain ⟨d, hg⟩ := hg
          exact ⟨d, (clI_sound (clc_code hg).2).2⟩) fun E a W hT hF => hh E a W hT hF Q hQr hQj
      · by_cases hlu : ∃ b hs', c = .loop b ∧ hs = .un hs'
        · obtain ⟨b, hs', rfl, rfl⟩ := hlu
          exact atLp.loop (atLp.round (exRun_sound hm hQr hQn hQj m (.code b :: .lo b :: k) nx β hs' a w hyp hh))
        have hun : ∀ E T h, exRun n P fn top E (m + 1) (.code c :: k) T h nx hs = exCode n P fn E (exRun n P fn top E m) c k T h nx hs := by
          intro E T h
          cases hs with
          | cc c' S pre e S' post i new hs' =>
            cases c with
            | loop b => exact absurd ⟨b, c', S, pre, e, S', post, i, new, hs', rfl, rfl⟩ hcc
            | _ => rfl
          | lp ks c' S bs =>
            cases c with
            | loop b => exact absurd ⟨b, ks, c', S, bs, rfl, rfl⟩ hlp
            | _ => rfl
          | un hs' =>
            cases c with
            | loop b => exact absurd ⟨b, hs', rfl, rfl⟩ hlu
            | _ => rfl
          | _ => cases c <;> rfl
        simp only [hun] at hyp
        rw [hun] at hg0
        clear hun
        cases c with
        | skip => exact wp_skip (exRun_sound hm hQr hQn hQj m k nx β hs a w hyp hh)
        | seq x y =>
          refine wp_seq ?_
          rw [← wpI_then]
          exact exRun_sound hm hQr hQn hQj m (.code x :: .code y :: k) nx β hs a w hyp hh
        | block id x =>
          refine wp_block ?_
          rw [← wpI_blk]
          exact exRun_sound hm hQr hQn hQj m (.code x :: .blk id :: k) nx β hs a w hyp hh
        | exit id =>
          cases hp : popTo id k with
          | none =>
            simp only [exCode, hp] at hyp hg0
            cases hs with
            | out e S bs =>
              cases e with
              | none => exact hg0.no.elim
              | some i =>
                cases hb : Nat.beq i id with
                | false => simp only [exLast, hb] at hg0; exact hg0.no.elim
                | true =>
                  simp only [exLast, hb] at hyp
                  have := Nat.eq_of_beq_eq_true hb
                  subst this
                  exact wp_exit (wpI_none hp (hQj (some i) a w (exOut_sound hyp hh)))
            | _ => exact hg0.no.elim
          | some k' =>
            simp only [exCode, hp] at hyp
            exact wp_exit (wpI_pop hp (exRun_sound hm hQr hQn hQj m k' nx β hs a w hyp hh))
        | cond c x y =>
          have hkn : ∀ {E T h}, Has n T a → (∃ d, Goods (exCode n P fn E (exRun n P fn top E m) (.cond c x y) k T h nx hs) d) → ∃ d, Goods (exTest (exRun n P fn top E m) (a.eval c) x y k T h nx hs) d := fun {E T h} hT hg => by
            obtain ⟨d, hg⟩ := hg
            cases hk : knownX T c with
            | false =>
              simp only [exCode, hk] at hg
              exact hg.no.elim
            | true =>
              simp only [exCode, hk] at hg
              rw [hT.eval hk]
              exact ⟨d, hg⟩
          have hyp' := hyp.imp fun E T h hT hg => hkn hT hg
          obtain ⟨d1, hg1⟩ := hkn hT0 ⟨d0, hg0⟩
          clear hyp hg0 hkn
          by_cases hsp : ∃ b hx hy, hs = .split b hx hy
          · obtain ⟨b, hx, hy, rfl⟩ := hsp
            have hv : a.eval c = .bool b := hg1.cl.1
            refine wp_cond_split hv (fun hb => ?_) fun hb => ?_
            · exact exRun_sound hm hQr hQn hQj m (.code x :: k) nx β hx a w (hyp'.imp fun E T h _ hg => by
                obtain ⟨d, hg⟩ := hg
                obtain ⟨d', hg, _⟩ := hg.cl.2.bind
                exact ⟨d', hg⟩) (hh.1 hb)
            · exact exRun_sound hm hQr hQn hQj m (.code y :: k) nx β hy a w (hyp'.imp fun E T h _ hg => by
                obtain ⟨d, hg⟩ := hg
                obtain ⟨d', _, hg⟩ := hg.cl.2.bind
                exact ⟨d, hg⟩) (hh.2 hb)
          · have plain : Fam n ft w0 nx β a w (fun E T h => ∃ d, Goods (match a.eval c with
                  | .bool true => exRun n P fn top E m (.code x :: k) T h nx hs
                  | .bool false => exRun n P fn top E m (.code y :: k) T h nx hs
                  | _ => none) d) := hyp'.imp fun E T h _ hg => by
              cases hs with
              | split b hx hy => exact absurd ⟨b, hx, hy, rfl⟩ hsp
              | _ => exact hg
            cases hv : a.eval c with
            | bool b =>
              rw [hv] at plain
              cases b with
              | true => exact wp_cond_true hv (exRun_sound hm hQr hQn hQj m (.code x :: k) nx β hs a w plain hh)
              | false => exact wp_cond_false hv (exRun_sound hm hQr hQn hQj m (.code y :: k) nx β hs a w plain hh)
            | _ =>
              rw [hv] at plain
              obtain ⟨_, _, _, _, _, hg⟩ := plain β (Agr.refl _ _)
              exact hg.no.elim
        | region id ops draw =>
          cases draw with
          | true =>
            have none_ : (Fam n ft w0 nx β a w fun E T h => ∃ d, Goods (bindC (exD n P E [] ops T h nx) fun d => exRun n P fn top E m k d.1 d.2 (nxD [] ops nx ops.size) hs) d) → (Code.region id ops true).wp P (wpI P Q k) a w := fun hyp =>
              exD_sound (K := fun E d => exRun n P fn top E m k d.1 d.2 (nxD [] ops nx ops.size) hs) (hs := []) hm trivial hyp fun β' a' w' hyp' => exRun_sound hm hQr hQn hQj m k _ β' hs a' w' hyp' hh
            by_cases hr : ∃ i l hs', hs = .r i l hs'
            · obtain ⟨i, l, hs', rfl⟩ := hr
              cases hb : Nat.beq i id with
              | true =>
                simp only [exCode, exRegD, hb] at hyp
                exact exD_sound (K := fun E d => exRun n P fn top E m k d.1 d.2 (nxD l ops nx ops.size) hs') hm hh.out.1 hyp fun β' a' w' hyp' => exRun_sound hm hQr hQn hQj m k _ β' hs' a' w' hyp' hh.out.2
              | false =>
                simp only [exCode, exRegD, hb] at hyp
                exact none_ hyp
            · refine none_ (hyp.imp fun E T h _ hg => ?_)
              cases hs with
              | r i l hs' => exact absurd ⟨i, l, hs', rfl⟩ hr
              | _ => exact hg
          | false =>
            have none_ : (Fam n ft w0 nx β a w fun E T h => ∃ d, Goods (bindC (exL n P E ops [] ops.toList 0 T h nx) fun d => exRun n P fn top E m k d.1 d.2 (nxL [] ops.toList 0 nx) hs) d) → (Code.region id ops false).wp P (wpI P Q k) a w := fun hyp =>
              wp_region_list (exL_sound (K := fun E d => exRun n P fn top E m k d.1 d.2 (nxL [] ops.toList 0 nx) hs) (hs := []) trivial ops.toList 0 nx β a w hyp fun β' a' w' hyp' => exRun_sound hm hQr hQn hQj m k _ β' hs a' w' hyp' hh)
            by_cases hr : ∃ i l hs', hs = .r i l hs'
            · obtain ⟨i, l, hs', rfl⟩ := hr
              cases hb : Nat.beq i id with
              | true =>
                simp only [exCode, exReg, hb] at hyp
                exact wp_region_list (exL_sound (K := fun E d => exRun n P fn top E m k d.1 d.2 (nxL l ops.toList 0 nx) hs') hh.out.1 ops.toList 0 nx β a w hyp fun β' a' w' hyp' => exRun_sound hm hQr hQn hQj m k _ β' hs' a' w' hyp' hh.out.2)
              | false =>
                simp only [exCode, exReg, hb] at hyp
                exact none_ hyp
            · refine none_ (hyp.imp fun E T h _ hg => ?_)
              cases hs with
              | r i l hs' => exact absurd ⟨i, l, hs', rfl⟩ hr
              | _ => exact hg
        | ret =>
          cases hs with
          | fin l v bs => exact wp_ret (wpI_ret (k := k) (hQr a w (exFin_sound hyp hh)))
          | _ => exact hg0.no.elim
        | _ => exact hg0.no.elim
def fstC {ρ : Type} (r : Cl ρ) : Option (List CV) := match r with
  | some (l, _) => some (l.map Prod.fst)
  | none => none
def sndC {ρ : Type} (r : Cl ρ) : Option (List CV) := some (match r with
  | some (l, _) => l.map Prod.snd
  | none => [])
theorem Goods.of {ρ : Type} {r : Cl ρ} (h : fstC r = sndC r) : ∃ d, Goods r d := by
  cases r with
  | none => cases h
  | some q =>
    obtain ⟨l, d⟩ := q
    refine ⟨d, l, rfl, ?_⟩
    have h' : l.map Prod.fst = l.map Prod.snd := by simpa [fstC, sndC] using h
    clear h
    induction l with
    | nil => trivial
    | cons p l ih =>
      simp only [List.map_cons, List.cons.injEq] at h'
      exact ⟨h'.1, ih h'.2⟩
/-- The slots at the beginning. -/
def args0 : Nat → List Value → Sl
  | _, [] => []
  | k, v :: l => (k, v) :: args0 (k + 1) l
theorem find_args0 : ∀ (l : List Value) (i k : Nat) (v : Value), find (args0 i l) k = some v → i ≤ k ∧ l[k - i]? = some v
  | [], _, _, _, h => by cases h
  | u :: l, i, k, v, h => by
    simp only [args0, find] at h
    split at h
    · rename_i hb
      have := Nat.eq_of_beq_eq_true hb
      subst this
      exact ⟨Nat.le_refl _, by simpa using h⟩
    · obtain ⟨h1, h2⟩ := find_args0 l (i + 1) k v h
      refine ⟨by omega, ?_⟩
      have e : k - i = (k - (i + 1)) + 1 := by omega
      rw [e, List.getElem?_cons_succ]
      exact h2
theorem Fits.nil (w : World) : Fits [] w [] w := ⟨Keep.refl _ _, fun _ _ h => by simp at h, fun _ _ _ _ h => by simp at h⟩
/-- A call, by its text. h0: what is known of the caller's blocks; ft: those that may be written. -/
theorem calls_ex {P : Program} (hm : P.follows .mixedOrders = true) {f : FuncId} {fn : Func} {c : Code} {args : Array Value} {w : World} {R : Ending → World → Prop} {ft : List Nat} (h0 : List Bx) (hs : Hs)
    (hf : P.funcs[f]? = some fn) (hb : fn.body = some c) (hF : Fits ft w h0 w) (hh : hs.Ok fn.ntmps P fn ft w R (fun _ _ _ => False)) (hn : Nat.ble args.toList.length fn.ntmps = true)
    (hg : ∀ E : Sup, fstC (exRun fn.ntmps P fn true E 1000 [.code c] (args0 0 args.toList) h0 h0.length hs) = sndC (exRun fn.ntmps P fn true E 1000 [.code c] (args0 0 args.toList) h0 h0.length hs)) :
    Calls P f args w R := by
  refine calls_of_wp hf hb ?_
  refine exRun_sound hm (n := fn.ntmps) (top := true) (J := fun _ _ _ => False) (fun a w h => h) (fun _ a w h => h) (fun e a w h => h.elim) 1000 [.code c] h0.length (fun _ => (0, none)) hs _ w (fun E _ => ⟨args0 0 args.toList, h0, ⟨rfl, ?_, fun k v hk => ?_⟩, hF, Goods.of (hg E)⟩) hh
  · have hn := Nat.le_of_ble_eq_true hn
    simp at hn ⊢
    omega
  · obtain ⟨_, h2⟩ := find_args0 _ _ _ _ hk
    simp only [Nat.sub_zero] at h2
    have hlt := (List.getElem?_eq_some_iff.1 h2).1
    rw [Array.getElem?_append_left (by simpa using hlt)]
    simpa using h2
/-- A piece of a text. -/
theorem wp_ex {P : Program} (hm : P.follows .mixedOrders = true) {n : Nat} (fn : Func) {c : Code} {a : Act} {w w0 : World} {R : Ending → World → Prop} {J Q : Exit → Act → World → Prop} {ft : List Nat} (T0 : Sl) (h0 : List Bx) (hs : Hs)
    (hT : Has n T0 a) (hF : Fits ft w0 h0 w) (hh : hs.Ok n P fn ft w0 R J)
    (hQr : ∀ a w, bodyPost P fn R .ret a w → Q .ret a w) (hQj : ∀ e a w, J (exitOf e) a w → Q (exitOf e) a w)
    (hg : ∀ E : Sup, fstC (exRun n P fn false E 1000 [.code c] T0 h0 h0.length hs) = sndC (exRun n P fn false E 1000 [.code c] T0 h0 h0.length hs)) : c.wp P Q a w :=
  exRun_sound hm (top := false) hQr (fun h => by cases h) hQj 1000 [.code c] h0.length (fun _ => (0, none)) hs a w (fun E _ => ⟨T0, h0, hT, hF, Goods.of (hg E)⟩) hh
/-- A call that looks at blocks, and turns none. -/
theorem GPost.quiet {ft : List Nat} {w0 W w' : World} {k : Nat} {v : Env → Value} {pre : BL} {E : Env} {e : Ending} (hk : Keep ft w0 W) (h : e = .returned (v E) ∧ Below W.heap.size W w') : ∃ q, GPost ft w0 k v pre [] [] E W e w' q :=
  ⟨fun _ => (0, none), h.1, fun _ hp => (by cases hp), hk.trans (Keep.of h.2), h.2.size, fun j hj _ => h.2.block j hj, fun _ _ hp => (by simp at hp)⟩
theorem least_of {X : Type} {p : X → Prop} (μ : X → Nat) : ∀ (n : Nat) (x : X), p x → μ x ≤ n → ∃ y, p y ∧ ∀ z, p z → μ y ≤ μ z := by
  intro n
  induction n with
  | zero => exact fun x hx hn => ⟨x, hx, fun z _ => by omega⟩
  | succ n ih =>
    intro x hx hn
    by_cases h : ∃ z, p z ∧ μ z < μ x
    · obtain ⟨z, hz, hlt⟩ := h
      exact ih z hz (by omega)
    · exact ⟨x, hx, fun z hz => Nat.le_of_not_lt fun hlt => h ⟨z, hz, hlt⟩⟩
/-- A loop by what holds at its head, for whatever is told of it. -/
theorem wp_loop_ex {P : Program} {c : Code} {X : Type} {Q : Exit → Act → World → Prop} {a : Act} {w : World} (I : X → Act → World → Prop) (μ : X → Nat) (x0 : X) (h0 : I x0 a w)
    (round : ∀ x a w, I x a w → c.wp P (Exit.then (fun a' w' => ∃ x', I x' a' w' ∧ μ x' < μ x) Q) a w) : (Code.loop c).wp P Q a w := by
  have hm : ∀ a w, (∃ x, I x a w) → ∃ y, I y a w ∧ ∀ z, I z a w → μ y ≤ μ z := fun a w ⟨x, hx⟩ => least_of μ (μ x) x hx (Nat.le_refl _)
  refine wp_loop (fun a w => ∃ x, I x a w) (fun a w => open Classical in if h : ∃ x, I x a w then μ (Classical.choose (hm a w h)) else 0) ⟨x0, h0⟩ fun a w hI => ?_
  have hc := Classical.choose_spec (hm a w hI)
  refine wp_mono (round _ a w hc.1) fun e a' w' h => ?_
  cases e with
  | normal =>
    obtain ⟨x', hx', hlt⟩ := h
    have hc' := Classical.choose_spec (hm a' w' ⟨x', hx'⟩)
    refine ⟨⟨x', hx'⟩, ?_⟩
    rw [dif_pos ⟨x', hx'⟩, dif_pos hI]
    exact Nat.lt_of_le_of_lt (hc'.2 x' hx') hlt
  | _ => exact h
/-- One's own blocks, to be read alone, seen from here. -/
def Bx.ro (x : Bx) : Bx := match x.k with
  | .own => ⟨x.b, 0, x.t, x.cs, .row⟩
  | .row => x
  | _ => noBx
theorem Fits.ro {ft : List Nat} {w0 w : World} {h : List Bx} (hF : Fits ft w0 h w) : Fits [] w (h.map Bx.ro) w := by
  refine ⟨Keep.refl _ _, fun i x hi => ?_, fun i j x y hi _ _ b hb _ => ?_⟩
  · obtain ⟨z, hz, rfl⟩ := by simpa using hi
    have hH := hF.all i z hz
    obtain ⟨zb, zo, zt, zc, zk⟩ := z
    cases zk with
    | own =>
      obtain ⟨h0, _, h2⟩ := hH
      simp only at h0 h2
      refine ⟨(Array.getElem?_eq_some_iff.1 h2).1, fun j v hj => ?_⟩
      show w.cell? ⟨zb, 0 + j, none⟩ = some v
      have := hF.cell hz (c := j) (v := v) hj
      rw [h0] at this
      exact this
    | row => exact hH
    | no => rfl
    | fact q p => rfl
    | facts q p => rfl
  · obtain ⟨z, _, rfl⟩ := by simpa using hi
    obtain ⟨zb, zo, zt, zc, zk⟩ := z
    cases zk <;> cases hb
/-- Seen from there and from here. -/
theorem Keep.under {ft ft' : List Nat} {w0 W w : World} (h : Keep ft w0 W) (k : Keep ft' W w) (hf : ∀ b ∈ ft', b ∈ ft ∨ w0.heap.size ≤ b) : Keep ft w0 w :=
  ⟨k.os.trans h.os, k.tape.trans h.tape, k.output.trans h.output, Nat.le_trans h.size k.size, fun i hi hn => (k.block i (Nat.lt_of_lt_of_le hi h.size) fun hm => (hf i hm).elim hn fun h => by omega).trans (h.block i hi hn)⟩
/-- A piece that turned nothing that was known. -/
theorem CPost.quiet {n : Nat} {ft : List Nat} {w0 W w' : World} {k : Nat} {pre : BL} {T' : Env → Sl} {E : Env} {a' : Act} (hk : Keep ft w0 W) (hk' : Keep [] W w') (hT : Has n (T' E) a') : ∃ q, CPost n ft w0 k pre T' [] [] E W a' w' q :=
  ⟨fun _ => (0, none), hT, rfl, fun _ hp => (by cases hp), hk.under hk' (fun _ h => by cases h), hk'.size, fun j hj _ => hk'.block j hj (by simp), fun _ _ hp => (by simp at hp)⟩
/-- The loops of a text, from the outermost on. -/
def loopsOf : Code → List Code
  | .seq x y => loopsOf x ++ loopsOf y
  | .cond _ x y => loopsOf x ++ loopsOf y
  | .block _ x => loopsOf x
  | .loop b => .loop b :: loopsOf b
  | _ => []
/-- What is left to be done behind each loop, from the outermost on. -/
def kAts : Code → List Itm → List (List Itm)
  | .seq x y, k => kAts x (.code y :: k) ++ kAts y k
  | .cond _ x y, k => kAts x k ++ kAts y k
  | .block id x, k => kAts x (.blk id :: k)
  | .loop b, k => k :: kAts b []
  | _, _ => []
def restAt (fn : Func) (i : Nat) : List Itm := match fn.body with
  | some c => (kAts c []).getD i []
  | none => []
def nthLoop (fn : Func) (i : Nat) : Code := match fn.body with
  | some c => (loopsOf c).getD i .skip
  | none => .skip
def bodyOf : Code → Code
  | .loop b => b
  | c => c
/-- An operation on two values that is told. -/
theorem opc_bin {P : Program} {op : BinOp} {t ty : TypeId} {x y : Operand} {a b r : Value} {ft : List Nat} {w0 W : World} {k : Nat} {v : Env → Value} {pre : BL} {E : Env} {ρ : Operand → Value} {o : Oper} (ho : o.op = .binOp op t x y ty) (hx : [ρ x, ρ y] = [a, b]) (hk : Keep ft w0 W)
    (h : (do eqGuard op t x y a b; binOp op t a b : Sem Value).run P W = .ok r W) (hv : v E = r) : ∃ x' q w', (execOp ρ o).run P W = .ok (.value x') w' ∧ GPost ft w0 k v pre [] [] E W (.returned x') w' q := by
  simp only [List.cons.injEq, and_true] at hx
  refine ⟨r, fun _ => (0, none), W, ?_, by rw [← hv]; rfl, fun _ hp => (by cases hp), hk, Nat.le_refl _, fun _ _ _ => rfl, fun _ _ hp => (by simp at hp)⟩
  unfold execOp
  simp only [ho, hx.1, hx.2]
  rw [Sem.run_bind, h]
  rfl
end Go.Proofs.Ytbhnjaajkolklaa
