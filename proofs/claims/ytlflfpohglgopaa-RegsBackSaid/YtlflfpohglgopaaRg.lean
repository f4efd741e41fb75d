/- Plain walking: a region that draws its order and holds one call and new variables, by a table of what each operation leaves: all orders at once. -/
import Derived.Test.YtlflfpohglgopaaSt
import Derived.OrdersHeld
import Derived.StillTail
set_option linter.all false
namespace Go.Proofs.Ytlflfpohglgopaa
open Go.ChangeShapes Go.WideShapes Go.ChangeAt Go.RowKit Go.Deep

/-- What an operation leaves in its temporary: a value that hangs on nothing, one that was loaded ahead of the call, one out of the call's result; a new block; a whole new block stored; the call. -/
inductive Knd (X : Type) where
  | con (v : Value)
  | ld (v : Value)
  | res (f : X → Value)
  | new (t : TypeId) (z : Array Value)
  | sto (j : Nat) (cs : X → Array Value)
  | cal (V : X → Value)
structure Ent (X : Type) where
  d : Option Nat
  k : Knd X
section
variable {P : Program} {ops : Array Oper} {Q : Exit → Act → World → Prop} {X : Type}
def Knd.val (i : Nat) (x : X) (β : Nat → Nat) : Knd X → Value
  | .con v => v
  | .ld v => v
  | .res f => f x
  | .new _ _ => .pointer (some ⟨β i, 0, none⟩)
  | .sto _ _ => undef
  | .cal V => V x
/-- The state behind the operations of D, of a table that begins with operation i. -/
def putU (x : X) (β : Nat → Nat) (D : Nat → Bool) : Nat → List (Ent X) → Act → Act
  | _, [], a => a
  | i, e :: U, a => putU x β D (i + 1) U (if D i = true then a.put e.d (e.k.val i x β) else a)
theorem putU_put (x : X) (β : Nat → Nat) (D : Nat → Bool) (d : Option Nat) (v : Value) : ∀ (U : List (Ent X)) (i : Nat) (a : Act), (∀ e ∈ U, ∀ s, d = some s → e.d ≠ some s) → putU x β D i U (a.put d v) = (putU x β D i U a).put d v
  | [], _, _, _ => rfl
  | e :: U, i, a, h => by
    have hU : ∀ e ∈ U, ∀ s, d = some s → e.d ≠ some s := fun e he => h e (List.mem_cons_of_mem _ he)
    rw [putU, putU]
    split
    · rw [Act.put_comm a (x := d) (y := e.d) v _ (h e (List.mem_cons_self ..)), putU_put x β D d v U (i + 1) _ hU]
    · exact putU_put x β D d v U (i + 1) a hU
theorem putU_congr {x x' : X} {β β' : Nat → Nat} {D D' : Nat → Bool} : ∀ (U : List (Ent X)) (i : Nat) (a : Act), (∀ k e, U[k]? = some e → D (i + k) = D' (i + k) ∧ (D (i + k) = true → e.k.val (i + k) x β = e.k.val (i + k) x' β')) → putU x β D i U a = putU x' β' D' i U a
  | [], _, _, _ => rfl
  | e :: U, i, a, h => by
    have h0 := h 0 e rfl
    have ih : ∀ a, putU x β D (i + 1) U a = putU x' β' D' (i + 1) U a := fun a => putU_congr U (i + 1) a fun k e' he => by
      have := h (k + 1) e' (by simpa using he)
      rwa [show i + 1 + k = i + (k + 1) by omega]
    simp only [Nat.add_zero] at h0
    rw [putU, putU, ← h0.1]
    split
    · rename_i hd
      rw [h0.2 hd, ih]
    · exact ih a
theorem putU_set {x : X} {β : Nat → Nat} {D D' : Nat → Bool} {j : Nat} {e0 : Ent X} (hD : D j = false) (hD' : D' j = true) (hne : ∀ k, k ≠ j → D' k = D k) :
    ∀ (U : List (Ent X)) (i : Nat) (a : Act), (∀ (p q : Nat) (e e' : Ent X) (s : Nat), U[p]? = some e → U[q]? = some e' → e.d = some s → e'.d = some s → p = q) → i ≤ j → U[j - i]? = some e0 → putU x β D' i U a = (putU x β D i U a).put e0.d (e0.k.val j x β)
  | [], _, _, _, _, h => by simp at h
  | e :: U, i, a, hs, hij, h => by
    have hs' : ∀ (p q : Nat) (e e' : Ent X) (s : Nat), U[p]? = some e → U[q]? = some e' → e.d = some s → e'.d = some s → p = q := fun p q e e' s hp hq h1 h2 => by
      have := hs (p + 1) (q + 1) e e' s (by simpa using hp) (by simpa using hq) h1 h2
      omega
    rw [putU, putU]
    by_cases he : i = j
    · subst he
      obtain rfl : e = e0 := by simpa using h
      rw [if_pos hD', if_neg (by rw [hD]; decide)]
      rw [putU_congr (x' := x) (β' := β) (D' := D) U (i + 1) _ (fun k e' _ => ⟨hne _ (by omega), fun _ => rfl⟩)]
      refine putU_put x β D _ _ U (i + 1) a fun e' he' s h1 h2 => ?_
      obtain ⟨q, hq⟩ := List.getElem?_of_mem he'
      have := hs 0 (q + 1) e e' s rfl (by simpa using hq) h1 h2
      omega
    · rw [hne i he]
      have h' : U[j - (i + 1)]? = some e0 := by
        have e1 : j - i = (j - (i + 1)) + 1 := by omega
        rw [e1] at h
        simpa using h
      split
      · exact putU_set hD hD' hne U (i + 1) _ hs' (by omega) h'
      · exact putU_set hD hD' hne U (i + 1) _ hs' (by omega) h'
theorem eval_tmp_put (a : Act) (s : Nat) (v : Value) : (a.put (some s) v).eval (.tmp s) = if s < a.tmps.size then v else undef := by
  simp only [Act.eval, Act.put]
  split <;> rename_i h <;> simp [h]
theorem putU_eval {x : X} {β : Nat → Nat} {D D' : Nat → Bool} {s : Nat} : ∀ (U : List (Ent X)) (i : Nat) (a a' : Act), a.tmps.size = a'.tmps.size → a.eval (.tmp s) = a'.eval (.tmp s) → (∀ k e, U[k]? = some e → e.d = some s → D (i + k) = true ∧ D' (i + k) = true) → (putU x β D i U a).eval (.tmp s) = (putU x β D' i U a').eval (.tmp s)
  | [], _, _, _, _, h, _ => h
  | e :: U, i, a, a', hz, h, hd => by
    have hd' : ∀ k e, U[k]? = some e → e.d = some s → D (i + 1 + k) = true ∧ D' (i + 1 + k) = true := fun k e he hs => by
      have := hd (k + 1) e (by simpa using he) hs
      rwa [show i + 1 + k = i + (k + 1) by omega]
    have size_put : ∀ (a : Act) v, (a.put e.d v).tmps.size = a.tmps.size := fun a v => by
      unfold Act.put
      split <;> simp
    rw [putU, putU]
    refine putU_eval U (i + 1) _ _ ?_ ?_ hd'
    · split <;> split <;> simp only [size_put, hz]
    · by_cases hs : e.d = some s
      · have := hd 0 e rfl hs
        simp only [Nat.add_zero] at this
        rw [if_pos this.1, if_pos this.2, hs, eval_tmp_put, eval_tmp_put, hz]
      · have hp : ∀ (a : Act) v, (a.put e.d v).eval (.tmp s) = a.eval (.tmp s) := fun a v => Act.eval_put fun d hd hx => hs (by rw [hd]; injection hx with hx; rw [hx])
        split <;> split <;> simp only [hp, h]
def waitsOn (ops : Array Oper) (i : Nat) : List Nat := match ops[i]? with
  | some o => (o.after.toList.filter (fun e => Region.binds .any e)).map (·.on)
  | none => []
/-- Operation i waits for k, by whatever chain. -/
def rgReach (ops : Array Oper) : Nat → Nat → Nat → Bool
  | 0, _, _ => false
  | f + 1, i, k => (waitsOn ops i).any fun j => j == k || rgReach ops f j k
def DownC (ops : Array Oper) (D : Nat → Bool) : Prop := ∀ i, D i = true → ∀ k ∈ waitsOn ops i, D k = true
theorem rgReach_in {D : Nat → Bool} (hd : DownC ops D) : ∀ (f i k : Nat), (∀ j ∈ waitsOn ops i, D j = true) → rgReach ops f i k = true → D k = true
  | 0, _, _, _, h => by simp [rgReach] at h
  | f + 1, i, k, hw, h => by
    simp only [rgReach, List.any_eq_true, Bool.or_eq_true, beq_iff_eq] at h
    obtain ⟨j, hj, h⟩ := h
    rcases h with rfl | h
    · exact hw j hj
    · exact rgReach_in hd f j k (hd j (hw j hj)) h
def rgOp (ops : Array Oper) (i : Nat) : Oper := ops.getD i ⟨none, .move (.const undef), 0, "", #[], none⟩
/-- The table fits the region. -/
def tableOk (ops : Array Oper) (ds : List (Option Nat)) : Bool :=
  ds.length == ops.size && (List.range ops.size).all fun i =>
    (rgOp ops i).guard.isNone && (rgOp ops i).dst == ds.getD i none && (waitsOn ops i).all (· < i) && (match (rgOp ops i).op with | .select _ _ => false | _ => true) &&
    (List.range ops.size).all fun k => match ds.getD k none with
      | some s => (!((rgOp ops i).looksAt ops).contains s || (waitsOn ops i).contains k) && (k == i || ds.getD i none != some s)
      | none => true
/-- The kinds fit the region: c is the call. -/
def kindOk (ops : Array Oper) (c n i : Nat) : Knd X → Bool
  | .con _ => i != c
  | .ld _ => i != c && rgReach ops n c i
  | .res _ => i != c && rgReach ops n i c
  | .new _ _ => i != c
  | .sto j _ => i != c && rgReach ops n i c && rgReach ops n i j
  | .cal _ => i == c
/-- What is to be shown of an operation, in the state behind all (its own operands stand there as they stand when it comes up). -/
def Knd.obl (P : Program) (ops : Array Oper) (I0 : World → Prop) (A : X → (Nat → Nat) → Act) (U : List (Ent X)) (i : Nat) : Knd X → Prop
  | .con v => ∀ x β w, (execOp (A x β).eval (rgOp ops i)).run P w = .ok (.value v) w
  | .ld v => ∀ x β w, I0 w → (execOp (A x β).eval (rgOp ops i)).run P w = .ok (.value v) w
  | .res f => ∀ x β w, (execOp (A x β).eval (rgOp ops i)).run P w = .ok (.value (f x)) w
  | .new t z => ∀ x β w, (execOp (A x β).eval (rgOp ops i)).run P w = .ok (.value (.pointer (some ⟨w.heap.size, 0, none⟩))) (w.alloc (.cells z t))
  | .sto j cs => ∃ t z d, U[j]? = some ⟨d, .new t z⟩ ∧ ∀ x β w, BoxAt w (β j) z t → (execOp (A x β).eval (rgOp ops i)).run P w = .ok .skip (w.setRow (β j) (cs x))
  | .cal _ => True
def Knd.isNew (t : TypeId) (z : Array Value) : Knd X → Prop
  | .new t' z' => t' = t ∧ z' = z
  | _ => False
/-- The new blocks, as far as they are made and filled. -/
structure NewOk (U : List (Ent X)) (lo : Nat) (D : Nat → Bool) (x : X) (β : Nat → Nat) (w : World) : Prop where
  box : ∀ i t z d, U[i]? = some ⟨d, .new t z⟩ → D i = true → lo ≤ β i ∧ ((∃ k cs d', U[k]? = some ⟨d', .sto i cs⟩ ∧ D k = true ∧ BoxAt w (β i) (cs x) t) ∨ ((∀ k cs d', U[k]? = some ⟨d', .sto i cs⟩ → D k = false) ∧ BoxAt w (β i) z t))
  ne : ∀ i j t z d t' z' d', U[i]? = some ⟨d, .new t z⟩ → U[j]? = some ⟨d', .new t' z'⟩ → D i = true → D j = true → i ≠ j → β i ≠ β j
theorem NewOk.lt {U : List (Ent X)} {lo : Nat} {D : Nat → Bool} {x : X} {β : Nat → Nat} {w : World} (h : NewOk U lo D x β w) {i : Nat} {t : TypeId} {z : Array Value} {d : Option Nat} (hi : U[i]? = some ⟨d, .new t z⟩) (hD : D i = true) : β i < w.heap.size := by
  rcases (h.box i t z d hi hD).2 with ⟨k, cs, d', _, _, hb⟩ | ⟨_, hb⟩ <;> exact hb.lt
/-- One more that makes and fills none. -/
theorem NewOk.same {U : List (Ent X)} {lo : Nat} {D D' : Nat → Bool} {x : X} {β : Nat → Nat} {w : World} (h : NewOk U lo D x β w) (hD : ∀ k, (∃ t z d, U[k]? = some ⟨d, .new t z⟩) ∨ (∃ j cs d, U[k]? = some ⟨d, .sto j cs⟩) → D' k = D k) : NewOk U lo D' x β w := by
  refine ⟨fun i t z d hi hd => ?_, fun i j t z d t' z' d' hi hj h1 h2 hne => ?_⟩
  · rw [hD i (.inl ⟨t, z, d, hi⟩)] at hd
    refine ⟨(h.box i t z d hi hd).1, (h.box i t z d hi hd).2.imp ?_ ?_⟩
    · rintro ⟨k, cs, d', hk, hk2, hb⟩
      exact ⟨k, cs, d', hk, (hD k (.inr ⟨i, cs, d', hk⟩)).trans hk2, hb⟩
    · rintro ⟨hk, hb⟩
      exact ⟨fun k cs d' hk' => (hD k (.inr ⟨i, cs, d', hk'⟩)).trans (hk k cs d' hk'), hb⟩
  · rw [hD i (.inl ⟨t, z, d, hi⟩)] at h1
    rw [hD j (.inl ⟨t', z', d', hj⟩)] at h2
    exact h.ne i j t z d t' z' d' hi hj h1 h2 hne
def kindsOk (ops : Array Oper) (c : Nat) (U : List (Ent X)) : Bool :=
  (List.range U.length).all fun i => match U[i]? with
    | some e => kindOk ops c ops.size i e.k && (match e.k with
      | .sto j _ => (List.range U.length).all fun k => k == i || (match U[k]? with | some e' => (match e'.k with | .sto j' _ => j' != j | _ => true) | none => true)
      | _ => true)
    | none => true
theorem rgKinds_spec {c : Nat} {U : List (Ent X)} (h : kindsOk ops c U = true) {i : Nat} {e : Ent X} (hi : U[i]? = some e) : kindOk ops c ops.size i e.k = true := by
  have hlt : i < U.length := (List.getElem?_eq_some_iff.1 hi).1
  have := List.all_eq_true.1 h i (List.mem_range.2 hlt)
  simp only [hi, Bool.and_eq_true] at this
  exact this.1
theorem rgStores_spec {c : Nat} {U : List (Ent X)} (h : kindsOk ops c U = true) {i k j : Nat} {d d' : Option Nat} {cs cs' : X → Array Value} (hi : U[i]? = some ⟨d, .sto j cs⟩) (hk : U[k]? = some ⟨d', .sto j cs'⟩) : k = i := by
  have hlt : i < U.length := (List.getElem?_eq_some_iff.1 hi).1
  have hlt2 : k < U.length := (List.getElem?_eq_some_iff.1 hk).1
  have := List.all_eq_true.1 h i (List.mem_range.2 hlt)
  simp only [hi, Bool.and_eq_true] at this
  have := List.all_eq_true.1 this.2 k (List.mem_range.2 hlt2)
  simp only [hk, Bool.or_eq_true, beq_iff_eq, bne_iff_ne, ne_eq, not_true, or_false] at this
  exact this
structure TabSpec (ops : Array Oper) (U : List (Ent X)) : Prop where
  len : U.length = ops.size
  guard : ∀ (i : Nat) (o : Oper), ops[i]? = some o → o.guard = none
  dst : ∀ (i : Nat) (o : Oper) (e : Ent X), ops[i]? = some o → U[i]? = some e → o.dst = e.d
  back : ∀ i k, k ∈ waitsOn ops i → k < i
  sel : ∀ (i : Nat) (o : Oper), ops[i]? = some o → ∀ cs b, o.op ≠ .select cs b
  look : ∀ (i : Nat) (o : Oper) (k : Nat) (e : Ent X) (s : Nat), ops[i]? = some o → U[k]? = some e → e.d = some s → s ∈ o.looksAt ops → k ∈ waitsOn ops i
  uniq : ∀ (p q : Nat) (e e' : Ent X) (s : Nat), U[p]? = some e → U[q]? = some e' → e.d = some s → e'.d = some s → p = q
theorem rgOp_some {i : Nat} {o : Oper} (h : ops[i]? = some o) : rgOp ops i = o := by
  unfold rgOp
  rw [Array.getD_eq_getD_getElem?, h]
  rfl
theorem rgTable_spec {U : List (Ent X)} (h : tableOk ops (U.map (·.d)) = true) : TabSpec ops U := by
  unfold tableOk at h
  rw [Bool.and_eq_true] at h
  obtain ⟨hl, h⟩ := h
  have hl : U.length = ops.size := by simpa using hl
  have hd : ∀ (i : Nat) (e : Ent X), U[i]? = some e → (U.map (·.d)).getD i none = e.d := fun i e he => by
    simp [List.getD_eq_getElem?_getD, he]
  have H : ∀ (i : Nat) (o : Oper), ops[i]? = some o → (o.guard = none ∧ o.dst = (U.map (·.d)).getD i none ∧ (∀ k ∈ waitsOn ops i, k < i) ∧ (∀ cs b, o.op ≠ .select cs b)) ∧ ∀ k, k < ops.size → ∀ s, (U.map (·.d)).getD k none = some s → (s ∈ o.looksAt ops → k ∈ waitsOn ops i) ∧ (k = i ∨ (U.map (·.d)).getD i none ≠ some s) := by
    intro i o ho
    have hlt : i < ops.size := (Array.getElem?_eq_some_iff.1 ho).1
    have := List.all_eq_true.1 h i (List.mem_range.2 hlt)
    rw [rgOp_some ho] at this
    simp only [Bool.and_eq_true, Option.isNone_iff_eq_none, beq_iff_eq, List.all_eq_true, decide_eq_true_eq] at this
    obtain ⟨⟨⟨⟨h1, h2⟩, h3⟩, h4⟩, h5⟩ := this
    refine ⟨⟨h1, h2, h3, fun cs b hop => by rw [hop] at h4; cases h4⟩, fun k hk s hs => ?_⟩
    have := h5 k (List.mem_range.2 hk)
    rw [hs] at this
    simp only [Bool.and_eq_true, Bool.or_eq_true, Bool.not_eq_true', beq_iff_eq, bne_iff_ne, ne_eq, List.contains_eq_mem, decide_eq_true_eq, decide_eq_false_iff_not] at this
    exact ⟨fun hin => this.1.resolve_left (fun h => h hin), this.2⟩
  have hin : ∀ (i : Nat) (e : Ent X), U[i]? = some e → ∃ o, ops[i]? = some o := fun i e he => by
    have hlt : i < ops.size := by rw [← hl]; exact (List.getElem?_eq_some_iff.1 he).1
    exact ⟨_, Array.getElem?_eq_getElem hlt⟩
  refine ⟨hl, fun i o ho => (H i o ho).1.1, fun i o e ho he => by rw [(H i o ho).1.2.1, hd i e he], ?_, fun i o ho => (H i o ho).1.2.2.2, ?_, ?_⟩
  · intro i k hk
    cases ho : ops[i]? with
    | none => simp [waitsOn, ho] at hk
    | some o => exact (H i o ho).1.2.2.1 k hk
  · intro i o k e s ho he hs hm
    have hlt : k < ops.size := by rw [← hl]; exact (List.getElem?_eq_some_iff.1 he).1
    exact ((H i o ho).2 k hlt s (by rw [hd k e he, hs])).1 hm
  · intro p q e e' s hp hq h1 h2
    obtain ⟨o, ho⟩ := hin p e hp
    have hlt : q < ops.size := by rw [← hl]; exact (List.getElem?_eq_some_iff.1 hq).1
    rcases ((H p o ho).2 q hlt s (by rw [hd q e' hq, h2])).2 with h | h
    · exact h.symm
    · exact absurd (by rw [hd p e hp, h1]) h
theorem rgCount_set {l : List Bool} : ∀ {i : Nat}, l[i]? = some false → (l.set i true).count false + 1 = l.count false := by
  induction l with
  | nil => intro i h; simp at h
  | cons b l ih =>
    intro i h
    cases i with
    | zero =>
      obtain rfl : b = false := by simpa using h
      simp
    | succ i =>
      have := ih (i := i) (by simpa using h)
      simp only [List.set_cons_succ, List.count_cons]
      omega
/-- All orders at once. -/
theorem rgTable_any {A : X → (Nat → Nat) → Act} {I0 : World → Prop} {I1 : X → World → Prop} {lo c : Nat} {U : List (Ent X)} {a0 : Act} {V : X → Value} {f : FuncId} {args : Array Value} {dc : Option Nat}
    (hA : ∀ x β, putU x β (fun _ => true) 0 U a0 = A x β) (hU : tableOk ops (U.map (·.d)) = true) (hk : kindsOk ops c U = true) (hc : U[c]? = some ⟨dc, .cal V⟩)
    (hob : ∀ (i : Nat) (e : Ent X), U[i]? = some e → e.k.obl P ops I0 A U i)
    (hI0 : ∀ w o, I0 w → I0 (w.alloc o)) (hI1 : ∀ x w o, I1 x w → I1 x (w.alloc o))
    (hI1r : ∀ x w b cs cs' t (i : Nat) z d, U[i]? = some ⟨d, .new t z⟩ → lo ≤ b → BoxAt w b cs t → I1 x w → I1 x (w.setRow b cs'))
    (hlo0 : ∀ w, I0 w → lo ≤ w.heap.size) (hlo1 : ∀ x w, I1 x w → lo ≤ w.heap.size)
    (hcall : ∀ x β w, I0 w → (execOp (A x β).eval (rgOp ops c)).run P w = .ok (.enter f args) w)
    (hK : ∀ w, I0 w → Calls P f args w fun e w' => ∃ x, e = .returned (V x) ∧ I1 x w' ∧ ∀ b cs t (i : Nat) z d, U[i]? = some ⟨d, .new t z⟩ → lo ≤ b → BoxAt w b cs t → BoxAt w' b cs t)
    (hQ : ∀ x β w, I1 x w → NewOk U lo (fun _ => true) x β w → Q .normal (A x β) w) :
    ∀ (fuel : Nat) (listed : Array Bool) (x : X) (β : Nat → Nat) (w : World), listed.size = ops.size → listed.toList.count false ≤ fuel → DownC ops (fun i => listed.getD i false) →
      (listed.getD c false = false → I0 w) → (listed.getD c false = true → I1 x w) → NewOk U lo (fun i => listed.getD i false) x β w →
      wpAny P .any ops Q fuel listed (putU x β (fun i => listed.getD i false) 0 U a0) w := by
  have S := rgTable_spec hU
  have hin : ∀ (i : Nat) (e : Ent X), U[i]? = some e → i < ops.size := fun i e he => by rw [← S.len]; exact (List.getElem?_eq_some_iff.1 he).1
  have hcl := hin c _ hc
  intro fuel
  -- the end
  have hend : ∀ (listed : Array Bool) (x : X) (β : Nat → Nat) (w : World), listed.size = ops.size → Region.ready .any ops listed = [] → (listed.getD c false = true → I1 x w) → NewOk U lo (fun i => listed.getD i false) x β w → Q .normal (putU x β (fun i => listed.getD i false) 0 U a0) w := by
    intro listed x β w hsz hr h1 hn
    have hall : ∀ n k, k ≤ n → k < ops.size → listed.getD k false = true := by
      intro n
      induction n with
      | zero =>
        intro k hk hlt
        obtain rfl : k = 0 := by omega
        cases hd : listed.getD 0 false with
        | true => rfl
        | false =>
          have : 0 ∈ Region.ready .any ops listed := by
            rw [mem_ready]
            refine ⟨getD_in (by omega) hd, _, Array.getElem?_eq_getElem hlt, fun e he hb => ?_⟩
            have := S.back 0 e.on (by
              unfold waitsOn
              rw [Array.getElem?_eq_getElem hlt]
              exact List.mem_map.2 ⟨e, List.mem_filter.2 ⟨by simpa using he, hb⟩, rfl⟩)
            omega
          rw [hr] at this
          simp at this
      | succ n ih =>
        intro k hk hlt
        cases hd : listed.getD k false with
        | true => rfl
        | false =>
          have : k ∈ Region.ready .any ops listed := by
            rw [mem_ready]
            refine ⟨getD_in (by omega) hd, _, Array.getElem?_eq_getElem hlt, fun e he hb => ?_⟩
            have := S.back k e.on (by
              unfold waitsOn
              rw [Array.getElem?_eq_getElem hlt]
              exact List.mem_map.2 ⟨e, List.mem_filter.2 ⟨by simpa using he, hb⟩, rfl⟩)
            exact ih e.on (by omega) (by omega)
          rw [hr] at this
          simp at this
    have hD : ∀ k, k < ops.size → listed.getD k false = true := fun k hk => hall k k (Nat.le_refl _) hk
    have e1 : putU x β (fun i => listed.getD i false) 0 U a0 = A x β := by
      rw [← hA]
      exact putU_congr U 0 a0 fun k e he => ⟨by simp only [Nat.zero_add]; exact hD k (hin k e he), fun _ => rfl⟩
    rw [e1]
    refine hQ x β w (h1 (hD c hcl)) (hn.same fun k hk => ?_)
    rcases hk with ⟨_, _, _, h⟩ | ⟨_, _, _, h⟩ <;> exact (hD k (hin k _ h)).symm
  induction fuel with
  | zero =>
    intro listed x β w hsz hcnt hd h0 h1 hn
    have hr : Region.ready .any ops listed = [] := by
      rcases hr : Region.ready .any ops listed with _ | ⟨i, rest⟩
      · rfl
      · have : i ∈ Region.ready .any ops listed := by rw [hr]; exact List.mem_cons_self ..
        obtain ⟨hun, o, ho, _⟩ := mem_ready.1 this
        have hlt : i < listed.size := by rw [hsz]; exact (Array.getElem?_eq_some_iff.1 ho).1
        have : false ∈ listed.toList := by
          rw [Array.mem_toList_iff]
          have : listed[i] = false := by simpa [hlt] using hun
          rw [← this]
          exact Array.getElem_mem hlt
        have := List.count_pos_iff.2 this
        omega
    exact ⟨hr, hend listed x β w hsz hr h1 hn⟩
  | succ fuel ih =>
    intro listed x β w hsz hcnt hd h0 h1 hn
    refine ⟨fun hr => hend listed x β w hsz hr h1 hn, fun i hi => ?_⟩
    obtain ⟨hun, o, ho, hall⟩ := mem_ready.1 hi
    have hlt : i < ops.size := (Array.getElem?_eq_some_iff.1 ho).1
    have hltl : i < listed.size := by omega
    have hDi : listed.getD i false = false := getD_both hun
    have hwt : ∀ k ∈ waitsOn ops i, listed.getD k false = true := by
      intro k hk
      unfold waitsOn at hk
      rw [ho] at hk
      obtain ⟨e, he, rfl⟩ := List.mem_map.1 hk
      obtain ⟨he, hb⟩ := List.mem_filter.1 he
      exact hall e (by simpa using he) hb
    obtain ⟨e, he⟩ : ∃ e, U[i]? = some e := ⟨_, List.getElem?_eq_getElem (by rw [S.len]; exact hlt)⟩
    have hkd := rgKinds_spec hk he
    have hobl := hob i e he
    have hds := S.dst i o e ho he
    have hwd : Region.wanted o (yielded ops (putU x β (fun i => listed.getD i false) 0 U a0).tmps) = true := by simp [Region.wanted, S.guard i o ho]
    -- what stands behind it
    have hsz' : (listed.setIfInBounds i true).size = ops.size := by simp [hsz]
    have hcnt' : (listed.setIfInBounds i true).toList.count false ≤ fuel := by
      have h2 : listed.toList[i]? = some false := by
        rw [Array.getElem?_toList, Array.getElem?_eq_getElem hltl]
        have : listed[i] = false := by simpa [hltl] using hun
        rw [this]
      have := rgCount_set h2
      rw [Array.toList_setIfInBounds]
      omega
    have hDne : ∀ k, k ≠ i → (listed.setIfInBounds i true).getD k false = listed.getD k false := fun k hk => getD_set_ne false (Ne.symm hk)
    have hDi' : (listed.setIfInBounds i true).getD i false = true := by simp [hltl]
    have hd' : DownC ops (fun k => (listed.setIfInBounds i true).getD k false) := by
      intro k hk j hj
      try simp only at hk ⊢
      by_cases hki : k = i
      · subst hki; exact getD_set_true (hwt j hj)
      · rw [hDne k hki] at hk; exact getD_set_true (hd k hk j hj)
    have hput : ∀ (x : X) (β : Nat → Nat), (putU x β (fun k => listed.getD k false) 0 U a0).put e.d (e.k.val i x β) = putU x β (fun k => (listed.setIfInBounds i true).getD k false) 0 U a0 := fun x β =>
      (putU_set (D := fun k => listed.getD k false) (D' := fun k => (listed.setIfInBounds i true).getD k false) hDi hDi' hDne U 0 a0 S.uniq (Nat.zero_le _) he).symm
    have hex : ∀ β, execOp (putU x β (fun k => listed.getD k false) 0 U a0).eval o = execOp (A x β).eval (rgOp ops i) := by
      intro β
      rw [rgOp_some ho, ← hA]
      refine execOp_congr o (S.sel i o ho) fun y hy => ?_
      cases y with
      | tmp s =>
        refine putU_eval U 0 a0 a0 rfl rfl fun k e' he' hs => ?_
        simp only [Nat.zero_add, and_true]
        exact hwt k (S.look i o k e' s ho he' hs (List.mem_append_left _ (List.mem_filterMap.2 ⟨.tmp s, by simpa using hy, rfl⟩)))
      | _ => rfl
    have hci : (∀ V', e.k ≠ .cal V') → c ≠ i := fun h => by
      rintro rfl
      rw [hc] at he
      obtain rfl := Option.some.inj he
      exact h V rfl
    unfold wpOp
    simp only [ho]
    rw [if_pos hwd]
    refine .inl ?_
    unfold Oper.wp
    rw [hex β]
    obtain ⟨d, k⟩ := e
    have hsame : (∀ t z, k ≠ .new t z) → (∀ j cs, k ≠ .sto j cs) → NewOk U lo (fun k => (listed.setIfInBounds i true).getD k false) x β w := fun hn1 hn2 => hn.same fun j hj => hDne j (by
      rintro rfl
      rcases hj with ⟨t, z, d', h⟩ | ⟨j', cs, d', h⟩ <;> (rw [he] at h; injection h with h; injection h with _ h)
      · exact hn1 t z h
      · exact hn2 j' cs h)
    cases k with
    | con v =>
      rw [hobl x β w]
      simp only [Oper.upon]
      rw [hds, show v = (Knd.con v : Knd X).val i x β from rfl, hput x β]
      have hne := hci (fun V' h => by cases h)
      exact ih _ x β w hsz' hcnt' hd' (by rw [hDne c hne]; exact h0) (by rw [hDne c hne]; exact h1) (hsame (fun _ _ h => by cases h) (fun _ _ h => by cases h))
    | ld v =>
      have hne := hci (fun V' h => by cases h)
      simp only [kindOk, Bool.and_eq_true] at hkd
      have hc0 : listed.getD c false = false := by
        cases hcc : listed.getD c false with
        | false => rfl
        | true =>
          have := rgReach_in hd ops.size c i (hd c hcc) hkd.2
          try simp only at this
          rw [hDi] at this
          cases this
      rw [hobl x β w (h0 hc0)]
      simp only [Oper.upon]
      rw [hds, show v = (Knd.ld v : Knd X).val i x β from rfl, hput x β]
      exact ih _ x β w hsz' hcnt' hd' (by rw [hDne c hne]; exact h0) (by rw [hDne c hne]; exact h1) (hsame (fun _ _ h => by cases h) (fun _ _ h => by cases h))
    | res g =>
      have hne := hci (fun V' h => by cases h)
      rw [hobl x β w]
      simp only [Oper.upon]
      rw [hds, show g x = (Knd.res g : Knd X).val i x β from rfl, hput x β]
      exact ih _ x β w hsz' hcnt' hd' (by rw [hDne c hne]; exact h0) (by rw [hDne c hne]; exact h1) (hsame (fun _ _ h => by cases h) (fun _ _ h => by cases h))
    | new t z =>
      have hne := hci (fun V' h => by cases h)
      have hlo : lo ≤ w.heap.size := by
        cases hcc : listed.getD c false with
        | false => exact hlo0 w (h0 hcc)
        | true => exact hlo1 x w (h1 hcc)
      obtain ⟨β', hβ'⟩ : ∃ β' : Nat → Nat, β' = fun k => if k = i then w.heap.size else β k := ⟨_, rfl⟩
      have hbi : β' i = w.heap.size := by rw [hβ']; simp
      have hbk : ∀ k, k ≠ i → β' k = β k := fun k hk => by rw [hβ']; simp [hk]
      have e1 : putU x β (fun k => listed.getD k false) 0 U a0 = putU x β' (fun k => listed.getD k false) 0 U a0 := by
        refine putU_congr U 0 a0 fun k e' he' => ⟨rfl, fun hk => ?_⟩
        simp only [Nat.zero_add] at hk ⊢
        have hki : k ≠ i := by rintro rfl; rw [hDi] at hk; cases hk
        unfold Knd.val
        split <;> (try rfl)
        rw [hbk k hki]
      rw [hobl x β w]
      simp only [Oper.upon]
      rw [hds, show (Value.pointer (some ⟨w.heap.size, 0, none⟩)) = (Knd.new t z : Knd X).val i x β' from by unfold Knd.val; simp only; rw [hbi], e1, hput x β']
      refine ih _ x β' _ hsz' hcnt' hd' (by rw [hDne c hne]; exact fun h => hI0 w _ (h0 h)) (by rw [hDne c hne]; exact fun h => hI1 x w _ (h1 h)) ⟨?_, ?_⟩
      · intro j t' z' d' hj hDj
        by_cases hji : j = i
        · subst hji
          rw [he] at hj
          injection hj with hj
          injection hj with _ hj
          injection hj with h2 h3
          subst h2 h3
          refine ⟨by rw [hbi]; exact hlo, .inr ⟨fun k cs d'' hk' => ?_, by rw [hbi]; exact BoxAt.new w z t⟩⟩
          have hki : k ≠ j := by
            rintro rfl
            rw [he] at hk'
            injection hk' with hk'
            injection hk' with _ hk'
            cases hk'
          try simp only
          rw [hDne k hki]
          cases hcc : listed.getD k false with
          | false => rfl
          | true =>
            have h2 := rgKinds_spec hk hk'
            simp only [kindOk, Bool.and_eq_true] at h2
            have := rgReach_in hd ops.size k j (hd k hcc) h2.2
            try simp only at this
            rw [hDi] at this
            cases this
        · try simp only at hDj
          rw [hDne j hji] at hDj
          obtain ⟨h2, h3⟩ := hn.box j t' z' d' hj hDj
          rw [hbk j hji]
          refine ⟨h2, h3.imp ?_ ?_⟩
          · rintro ⟨k, cs, d'', hk', hDk, hb⟩
            exact ⟨k, cs, d'', hk', getD_set_true hDk, hb.alloc _⟩
          · rintro ⟨hk', hb⟩
            refine ⟨fun k cs d'' hk2 => ?_, hb.alloc _⟩
            try simp only
            rw [hDne k (by
              rintro rfl
              rw [he] at hk2
              injection hk2 with hk2
              injection hk2 with _ hk2
              cases hk2)]
            exact hk' k cs d'' hk2
      · intro j j' t1 z1 d1 t2 z2 d2 hj hj' hDj hDj' hjj
        try simp only at hDj hDj'
        by_cases hji : j = i
        · subst hji
          rw [hDne j' (Ne.symm hjj)] at hDj'
          have := hn.lt hj' hDj'
          rw [hbi, hbk j' (Ne.symm hjj)]
          omega
        · by_cases hji' : j' = i
          · subst hji'
            rw [hDne j hji] at hDj
            have := hn.lt hj hDj
            rw [hbi, hbk j hji]
            omega
          · rw [hDne j hji] at hDj
            rw [hDne j' hji'] at hDj'
            rw [hbk j hji, hbk j' hji']
            exact hn.ne j j' t1 z1 d1 t2 z2 d2 hj hj' hDj hDj' hjj
    | sto j cs =>
      have hne := hci (fun V' h => by cases h)
      simp only [kindOk, Bool.and_eq_true] at hkd
      obtain ⟨t, z, dj, hj, hrun⟩ := hobl
      have hDj : listed.getD j false = true := rgReach_in hd ops.size i j hwt hkd.2
      have hDc : listed.getD c false = true := rgReach_in hd ops.size i c hwt hkd.1.2
      obtain ⟨hbl, hbx⟩ := hn.box j t z dj hj hDj
      have hbz : (∀ k cs' d', U[k]? = some ⟨d', .sto j cs'⟩ → listed.getD k false = false) ∧ BoxAt w (β j) z t := by
        rcases hbx with ⟨k, cs', d', hk', hDk, _⟩ | h
        · have := rgStores_spec hk he hk'
          subst this
          rw [hDi] at hDk
          cases hDk
        · exact h
      rw [hrun x β w hbz.2]
      simp only [Oper.upon]
      rw [hds, show (undef : Value) = (Knd.sto j cs : Knd X).val i x β from rfl, hput x β]
      refine ih _ x β _ hsz' hcnt' hd' (by rw [hDne c hne, hDc]; exact fun h => by cases h) (by rw [hDne c hne]; exact fun h => hI1r x w (β j) z _ t j z dj hj hbl hbz.2 (h1 h)) ⟨?_, ?_⟩
      · intro j2 t' z' d' hj2 hDj2
        try simp only at hDj2
        rw [hDne j2 (by
          rintro rfl
          rw [he] at hj2
          injection hj2 with hj2
          injection hj2 with _ hj2
          cases hj2)] at hDj2
        by_cases hjj : j2 = j
        · subst hjj
          rw [hj] at hj2
          injection hj2 with hj2
          injection hj2 with _ hj2
          injection hj2 with h2 h3
          subst h2 h3
          exact ⟨hbl, .inl ⟨i, cs, d, he, hDi', hbz.2.put⟩⟩
        · obtain ⟨h2, h3⟩ := hn.box j2 t' z' d' hj2 hDj2
          have hbn : β j2 ≠ β j := hn.ne j2 j t' z' d' t z dj hj2 hj hDj2 hDj hjj
          refine ⟨h2, h3.imp ?_ ?_⟩
          · rintro ⟨k, cs', d'', hk', hDk, hb⟩
            exact ⟨k, cs', d'', hk', getD_set_true hDk, hb.row hbn⟩
          · rintro ⟨hk', hb⟩
            refine ⟨fun k cs' d'' hk2 => ?_, hb.row hbn⟩
            try simp only
            rw [hDne k (by
              rintro rfl
              rw [he] at hk2
              injection hk2 with hk2
              injection hk2 with _ hk2
              injection hk2 with h5 _
              exact hjj h5.symm)]
            exact hk' k cs' d'' hk2
      · intro j1 j2 t1 z1 d1 t2 z2 d2 hj1 hj2 hD1 hD2 hjj
        try simp only at hD1 hD2
        have hx : ∀ (q : Nat) t z d', U[q]? = some ⟨d', .new t z⟩ → q ≠ i := fun q t z d' hq => by
          rintro rfl
          rw [he] at hq
          injection hq with hq
          injection hq with _ hq
          cases hq
        rw [hDne j1 (hx j1 _ _ _ hj1)] at hD1
        rw [hDne j2 (hx j2 _ _ _ hj2)] at hD2
        exact hn.ne j1 j2 t1 z1 d1 t2 z2 d2 hj1 hj2 hD1 hD2 hjj
    | cal V' =>
      simp only [kindOk, beq_iff_eq] at hkd
      subst hkd
      rw [hc] at he
      injection he with he
      injection he with h2 h3
      injection h3 with h3
      subst h2 h3
      rw [hcall x β w (h0 hDi)]
      simp only [Oper.upon]
      refine (hK w (h0 hDi)).mono ?_
      rintro _ w2 ⟨x', rfl, h1', hkp⟩
      try simp only
      have e1 : putU x β (fun k => listed.getD k false) 0 U a0 = putU x' β (fun k => listed.getD k false) 0 U a0 := by
        refine putU_congr U 0 a0 fun k e' he' => ⟨rfl, fun hDk => ?_⟩
        simp only [Nat.zero_add] at hDk ⊢
        have h2 := rgKinds_spec hk he'
        unfold Knd.val
        split <;> (try rfl)
        · rename_i g hg
          rw [hg] at h2
          simp only [kindOk, Bool.and_eq_true] at h2
          have := rgReach_in hd ops.size k i (hd k hDk) h2.2
          try simp only at this
          rw [hDi] at this
          cases this
        · rename_i g hg
          rw [hg] at h2
          simp only [kindOk, beq_iff_eq] at h2
          subst h2
          rw [hDi] at hDk
          cases hDk
      rw [hds, show V x' = (Knd.cal V : Knd X).val i x' β from rfl, e1, hput x' β]
      refine ih _ x' β w2 hsz' hcnt' hd' (by rw [hDi']; exact fun h => by cases h) (fun _ => h1') ⟨?_, ?_⟩
      · intro j t z d' hj hDj
        try simp only at hDj
        have hji : j ≠ i := by
          rintro rfl
          rw [hc] at hj
          injection hj with hj
          injection hj with _ hj
          cases hj
        rw [hDne j hji] at hDj
        obtain ⟨h2, h3⟩ := hn.box j t z d' hj hDj
        have hst : ∀ k cs d'', U[k]? = some ⟨d'', .sto j cs⟩ → listed.getD k false = false := by
          intro k cs d'' hk'
          cases hcc : listed.getD k false with
          | false => rfl
          | true =>
            have h4 := rgKinds_spec hk hk'
            simp only [kindOk, Bool.and_eq_true] at h4
            have := rgReach_in hd ops.size k i (hd k hcc) h4.1.2
            try simp only at this
            rw [hDi] at this
            cases this
        refine ⟨h2, .inr ⟨fun k cs d'' hk' => ?_, ?_⟩⟩
        · try simp only
          rw [hDne k (by
            rintro rfl
            rw [hc] at hk'
            injection hk' with hk'
            injection hk' with _ hk'
            cases hk')]
          exact hst k cs d'' hk'
        · rcases h3 with ⟨k, cs, d'', hk', hDk, _⟩ | ⟨_, hb⟩
          · have := hst k cs d'' hk'
            try simp only at hDk
            rw [this] at hDk
            cases hDk
          · exact hkp (β j) z t j z d' hj h2 hb
      · intro j1 j2 t1 z1 d1 t2 z2 d2 hj1 hj2 hD1 hD2 hjj
        try simp only at hD1 hD2
        have hx : ∀ (q : Nat) t z d', U[q]? = some ⟨d', .new t z⟩ → q ≠ i := fun q t z d' hq => by
          rintro rfl
          rw [hc] at hq
          injection hq with hq
          injection hq with _ hq
          cases hq
        rw [hDne j1 (hx j1 _ _ _ hj1)] at hD1
        rw [hDne j2 (hx j2 _ _ _ hj2)] at hD2
        exact hn.ne j1 j2 t1 z1 d1 t2 z2 d2 hj1 hj2 hD1 hD2 hjj
/-- A region that draws its order, by its table. -/
theorem wp_region_table {id : Nat} {a0 : Act} {w : World} (x0 : X) {A : X → (Nat → Nat) → Act} {I0 : World → Prop} {I1 : X → World → Prop} {lo c : Nat} {U : List (Ent X)} {V : X → Value} {f : FuncId} {args : Array Value} {dc : Option Nat}
    (hm : P.follows .mixedOrders = true) (hA : ∀ x β, putU x β (fun _ => true) 0 U a0 = A x β) (hU : tableOk ops (U.map (·.d)) = true) (hk : kindsOk ops c U = true) (hc : U[c]? = some ⟨dc, .cal V⟩)
    (hob : ∀ (i : Nat) (e : Ent X), U[i]? = some e → e.k.obl P ops I0 A U i)
    (hI0 : ∀ w o, I0 w → I0 (w.alloc o)) (hI1 : ∀ x w o, I1 x w → I1 x (w.alloc o))
    (hI1r : ∀ x w b cs cs' t (i : Nat) z d, U[i]? = some ⟨d, .new t z⟩ → lo ≤ b → BoxAt w b cs t → I1 x w → I1 x (w.setRow b cs'))
    (hlo0 : ∀ w, I0 w → lo ≤ w.heap.size) (hlo1 : ∀ x w, I1 x w → lo ≤ w.heap.size)
    (hcall : ∀ x β w, I0 w → (execOp (A x β).eval (rgOp ops c)).run P w = .ok (.enter f args) w)
    (hK : ∀ w, I0 w → Calls P f args w fun e w' => ∃ x, e = .returned (V x) ∧ I1 x w' ∧ ∀ b cs t (i : Nat) z d, U[i]? = some ⟨d, .new t z⟩ → lo ≤ b → BoxAt w b cs t → BoxAt w' b cs t)
    (h0 : I0 w.drew) (hQ : ∀ x β w, I1 x w → NewOk U lo (fun _ => true) x β w → Q .normal (A x β) w) : (Code.region id ops true).wp P Q a0 w := by
  refine wp_region_any hm ?_
  have hf : ∀ i, (Array.replicate ops.size false).getD i false = false := fun i => by
    rw [Array.getD_eq_getD_getElem?]
    by_cases h : i < ops.size
    · simp [h]
    · simp [h]
  have e1 : putU x0 (fun _ => 0) (fun i => (Array.replicate ops.size false).getD i false) 0 U a0 = a0 := by
    have : ∀ (U : List (Ent X)) (i : Nat) (a : Act), putU x0 (fun _ => 0) (fun i => (Array.replicate ops.size false).getD i false) i U a = a := by
      intro U
      induction U with
      | nil => intro i a; rfl
      | cons e U ih =>
        intro i a
        rw [putU, if_neg (by rw [hf]; decide)]
        exact ih _ _
    exact this U 0 a0
  have := rgTable_any (Q := Q) hA hU hk hc hob hI0 hI1 hI1r hlo0 hlo1 hcall hK hQ ops.size (Array.replicate ops.size false) x0 (fun _ => 0) w.drew (by simp) (by
    have := List.count_le_length (a := false) (l := (Array.replicate ops.size false).toList)
    simp at this ⊢) (fun i h => (by simp only [hf] at h; cases h)) (fun _ => h0) (fun h => (by rw [hf] at h; cases h))
    ⟨fun i _ _ _ _ h => (by simp only [hf] at h; cases h), fun i _ _ _ _ _ _ _ _ _ h => (by simp only [hf] at h; cases h)⟩
  rw [e1] at this
  exact this
end
end Go.Proofs.Ytlflfpohglgopaa
