/- The engine: an element of a row that is a fact: its place, its cells; a fit, seen from here. -/
import Derived.Test.YtbhnjaajkolklaaEb
import Derived.Deep.MidRow
set_option linter.all false
namespace Go.Proofs.Ytbhnjaajkolklaa
open Go.ChangeShapes Go.WideShapes Go.ChangeAt Go.RowKit Go.Deep

def blkOf : Option Addr → Nat
  | some a => a.block
  | none => 0
theorem OwnP.at {e : TypeId} {size : Nat} {f : Option Addr} {n c : Nat} {xs : List Value} {W : World} (h : OwnP e size f n c xs W) (hn : 0 < n) : f = some ⟨blkOf f, 0, none⟩ ∧ ∀ j v, xs[j]? = some v → W.cell? ⟨blkOf f, j, none⟩ = some v := by
  rcases h.2 with ⟨_, h0⟩ | ⟨g, cap, cur, hv, _⟩
  · omega
  · injection hv with hf
    subst hf
    refine ⟨rfl, fun j v hj => ?_⟩
    have := h.cells (g := g) rfl j v hj
    rwa [add_none, Nat.zero_add] at this
/-- An operation that changes nothing. -/
theorem opc_same {P : Program} {ft : List Nat} {w0 W : World} {k : Nat} {v : Env → Value} {pre : BL} {E : Env} {ρ : Operand → Value} {o : Oper} (hk : Keep ft w0 W) (h : (execOp ρ o).run P W = .ok (.value (v E)) W) :
    ∃ x q w', (execOp ρ o).run P W = .ok (.value x) w' ∧ GPost ft w0 k v pre [] [] E W (.returned x) w' q :=
  ⟨v E, fun _ => (0, none), W, h, rfl, fun _ hp => (by cases hp), hk, Nat.le_refl _, fun _ _ _ => rfl, fun _ _ hp => (by simp at hp)⟩
theorem ix_opc {P : Program} {ft : List Nat} {w0 W : World} {k n N : Nat} {j : Int} {c : Nat} {f : Option Addr} {v : Env → Value} {pre : BL} {E : Env} {ρ : Operand → Value} {o : Oper} {t e : TypeId} {s i : Operand} {xs : List Value} {size : Nat} (ho : o.op = .indexAddr t s i) (hx : [ρ s, ρ i] = [.slice f n c, .int .i64 j]) (hk : Keep ft w0 W)
    (hu : P.underlying t = some (.slice e)) (hi : (P.info? e).map (·.size) = some N) (hP : OwnP e size f n c xs W) (h0 : 0 ≤ j) (h1 : j < n) (hv : v E = .pointer (some ⟨blkOf f, j.toNat * N, none⟩)) :
    ∃ x q w', (execOp ρ o).run P W = .ok (.value x) w' ∧ GPost ft w0 k v pre [] [] E W (.returned x) w' q := by
  refine opc_same hk ?_
  rw [hv]
  simp only [List.cons.injEq, and_true] at hx
  obtain ⟨hf, _⟩ := hP.at (by omega)
  have he : P.elem t = e := by simp [Program.elem, hu]
  have hsz : (sizeOf (P.elem t)).run P W = .ok N W := by
    rw [he]
    cases hq : P.info? e with
    | none => simp [hq] at hi
    | some i =>
      have : i.size = N := by simpa [hq] using hi
      simp [sizeOf, typeInfo, hq, this]
  have hr : (Instr.indexAt t (.slice f n c) (.int .i64 j)).run P W = .ok (.pointer (some ⟨blkOf f, j.toNat * N, none⟩)) W := by
    rw [hf]
    simp only [run_indexAt_slice W t _ _ _ _ _ (by rw [he]; exact hu)]
    rw [if_pos ⟨h0, h1⟩, hsz]
    simp [Addr.add, blkOf]
    exact fun h => h.symm
  unfold execOp
  simp only [ho, hx.1, hx.2, Sem.run_bind, hr, Result.andThen_ok, Sem.run_pure]
/-- A fit, seen from here: what may be turned is told. -/
theorem Fits.self {ft ft' : List Nat} {w0 W : World} {h : List Bx} (H : Fits ft w0 h W) (hf : ∀ (i : Nat) (x : Bx), h[i]? = some x → ∀ b, x.fp b → b ∈ ft') : Fits ft' W h W := by
  refine ⟨Keep.refl _ _, fun i x hi => ?_, H.ne⟩
  have hx := H.all i x hi
  have hfx := hf i x hi
  obtain ⟨b, o, t, cs, k⟩ := x
  cases k with
  | no => exact hx
  | row => exact hx
  | own => exact ⟨hx.1, Or.inl (hfx b rfl), hx.2.2⟩
  | fact q p => exact ⟨hx.1, fun b' hb => ⟨Or.inl (hfx b' hb), (hx.2.1 b' hb).2⟩, hx.2.2⟩
  | facts q p => exact ⟨hx.1, fun b' hb => ⟨Or.inl (hfx b' hb), (hx.2.1 b' hb).2⟩, hx.2.2⟩
end Go.Proofs.Ytbhnjaajkolklaa
