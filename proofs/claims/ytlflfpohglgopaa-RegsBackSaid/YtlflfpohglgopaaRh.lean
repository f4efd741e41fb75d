/- Plain walking: what an operation does, for the tables of drawn regions; an operation that is taken first, in short. -/
import Derived.Test.YtlflfpohglgopaaRg
import Derived.Test.YtlflfpohglgopaaTk
set_option linter.all false
namespace Go.Proofs.Ytlflfpohglgopaa
open Go.ChangeShapes Go.WideShapes Go.ChangeAt Go.RowKit Go.Deep

section
variable {P : Program} {ρ : Operand → Value} {o : Oper} {w : World}
theorem run_ld1 (ty : TypeId) (x : Operand) (b off : Nat) {v : Value} {d : TypeDesc} (h1 : o.op = .load ty x) (h2 : ρ x = .pointer (some ⟨b, off, none⟩)) (hu : P.underlying ty = some d)
    (hd : (match d with | .struct _ | .array _ _ => false | _ => true) = true) (hc : w.cell? ⟨b, off, none⟩ = some v) : (execOp ρ o).run P w = .ok (.value v) w := by
  have hagg : (isAgg ty).run P w = .ok false w := by
    unfold isAgg
    rw [Sem.run_bind, run_underlying hu w]
    cases d <;> simp_all
  unfold execOp
  simp only [h1, h2, Instr.loadAt, Instr.sureAddr, Sem.run_bind, Sem.run_pure, Result.andThen_ok, loadVar, hagg]
  simp [hc]
theorem run_ldN (ty : TypeId) (x : Operand) (b off : Nat) {cs : Array Value} {d : TypeDesc} (h1 : o.op = .load ty x) (h2 : ρ x = .pointer (some ⟨b, off, none⟩)) (hu : P.underlying ty = some d)
    (hd : (match d with | .struct _ | .array _ _ => true | _ => false) = true) (hi : (P.info? ty).map (·.size) = some cs.size) (hc : ∀ j v, cs[j]? = some v → w.cell? ⟨b, off + j, none⟩ = some v) : (execOp ρ o).run P w = .ok (.value (.agg cs)) w := by
  have hl : (loadCells ⟨b, off, none⟩ cs.toList.length).run P w = .ok cs.toList.toArray w :=
    run_loadCells_list (P := P) w ⟨b, off, none⟩ cs.toList (fun j v hv => by
      rw [add_none]
      exact hc j v (by simpa using hv))
  cases hq : P.info? ty with
  | none => simp [hq] at hi
  | some i =>
    have hs : i.size = cs.size := by simpa [hq] using hi
    have hagg : (isAgg ty).run P w = .ok true w := by
      unfold isAgg
      rw [Sem.run_bind, run_underlying hu w]
      cases d <;> simp_all
    simp only [Array.length_toList, Array.toArray_toList] at hl
    unfold execOp
    simp only [h1, h2, Instr.loadAt, Instr.sureAddr, Sem.run_bind, Sem.run_pure, Result.andThen_ok]
    simp [loadVar, Sem.run_bind, hagg, sizeOf, typeInfo, hq, hs, hl]
theorem run_stoB (ty : TypeId) (x y : Operand) (g : Nat) {cells old : Array Value} {t : TypeId} (h1 : o.op = .store ty x y) (hx : ρ x = .pointer (some ⟨g, 0, none⟩)) (hy : ρ y = .agg cells) (hi : (P.info? ty).map (·.size) = some cells.size) (hold : old.size = cells.size) (ho : cells.all (·.oneCell') = true)
    (hB : BoxAt w g old t) : (execOp ρ o).run P w = .ok .skip (w.setRow g cells) := by
  unfold execOp
  simp only [h1, hx, hy, Instr.storeAt, Instr.sureAddr, Sem.run_bind, Sem.run_pure, Result.andThen_ok, run_storeVar_row w g t ty old cells hB.h hi hold ho]
end
section
variable {P : Program} {ops : Array Oper} {X : Type}
/-- Operation k alone fills the block of operation i. -/
def onlySto (U : List (Ent X)) (i k : Nat) : Bool := (List.range U.length).all fun k' => k' == k || (match U[k']? with
  | some e => (match e.k with | .sto j _ => j != i | _ => true)
  | none => true)
/-- A new block that is filled. -/
theorem NewOk.full {U : List (Ent X)} {lo : Nat} {x : X} {β : Nat → Nat} {w : World} (h : NewOk U lo (fun _ => true) x β w) (i k : Nat) (hk : onlySto U i k = true) {t : TypeId} {z : Array Value} {d d' : Option Nat} {cs : X → Array Value} (hi : U[i]? = some ⟨d, .new t z⟩) (hs : U[k]? = some ⟨d', .sto i cs⟩) : lo ≤ β i ∧ BoxAt w (β i) (cs x) t := by
  obtain ⟨h1, h2⟩ := h.box i t z d hi rfl
  refine ⟨h1, ?_⟩
  rcases h2 with ⟨k', cs', d'', hk', _, hb⟩ | ⟨hn, _⟩
  · have hlt : k' < U.length := (List.getElem?_eq_some_iff.1 hk').1
    have := List.all_eq_true.1 hk k' (List.mem_range.2 hlt)
    simp only [hk', Bool.or_eq_true, beq_iff_eq, bne_iff_ne, ne_eq, not_true, or_false] at this
    subst this
    rw [hs] at hk'
    injection hk' with hk'
    injection hk' with _ hk'
    injection hk' with _ hk'
    rw [hk']
    exact hb
  · have := hn k cs d' hs
    cases this
/-- All obligations of a table. -/
def AllObl (P : Program) (ops : Array Oper) (I0 : World → Prop) (A : X → (Nat → Nat) → Act) (U : List (Ent X)) : Nat → List (Ent X) → Prop
  | _, [] => True
  | i, e :: V => e.k.obl P ops I0 A U i ∧ AllObl P ops I0 A U (i + 1) V
theorem AllObl.get {I0 : World → Prop} {A : X → (Nat → Nat) → Act} {U : List (Ent X)} : ∀ {V : List (Ent X)} {i : Nat}, AllObl P ops I0 A U i V → ∀ (k : Nat) (e : Ent X), V[k]? = some e → e.k.obl P ops I0 A U (i + k)
  | [], _, _, _, _, h => by simp at h
  | e :: V, i, h, 0, e', he => by
    obtain rfl : e = e' := by simpa using he
    exact h.1
  | e :: V, i, h, k + 1, e', he => by
    have := h.2.get k e' (by simpa using he)
    rwa [show i + 1 + k = i + (k + 1) by omega] at this
theorem AllObl.all {I0 : World → Prop} {A : X → (Nat → Nat) → Act} {U : List (Ent X)} (h : AllObl P ops I0 A U 0 U) : ∀ (i : Nat) (e : Ent X), U[i]? = some e → e.k.obl P ops I0 A U i := fun i e he => by
  have := h.get i e he
  rwa [Nat.zero_add] at this
end
section
variable {X : Type}
/-- No new block is of these types. -/
def newsOk (bad : List TypeId) (U : List (Ent X)) : Bool := U.all fun e => match e.k with
  | .new t _ => !bad.contains t
  | _ => true
theorem newsOk_spec {bad : List TypeId} {U : List (Ent X)} (h : newsOk bad U = true) {i : Nat} {t : TypeId} {z : Array Value} {d : Option Nat} (hi : U[i]? = some ⟨d, .new t z⟩) : t ∉ bad := by
  have := List.all_eq_true.1 h _ (List.mem_of_getElem? hi)
  simpa using this
theorem BoxAt.sub {w : World} {b : Nat} {cs : Array Value} {t : TypeId} (h : BoxAt w b cs t) (off : Nat) (ds : Array Value) (hs : (cs.extract off (off + ds.size)).toList = ds.toList) : ∀ j v, ds[j]? = some v → w.cell? ⟨b, off + j, none⟩ = some v := by
  intro j v hj
  refine h.get (off + j) v ?_
  rw [← Array.getElem?_toList, ← hs, Array.getElem?_toList, Array.getElem?_extract] at hj
  split at hj
  · exact hj
  · cases hj
end
end Go.Proofs.Ytlflfpohglgopaa
