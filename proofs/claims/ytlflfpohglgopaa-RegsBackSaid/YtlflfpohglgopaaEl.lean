/- The engine, for laws: a row of questions. -/
import Derived.Test.YtlflfpohglgopaaEw
import Derived.Test.YtlflfpohglgopaaSl
set_option linter.all false
namespace Go.Proofs.Ytlflfpohglgopaa
open Go.ChangeShapes Go.WideShapes Go.ChangeAt Go.RowKit Go.Deep

theorem mixedT : Try.prog.follows .mixedOrders = true := by kernel_rfl
theorem ix_row {w : World} (ty e : TypeId) (g go n d k N : Nat) (hu : Try.prog.underlying ty = some (.slice e)) (hi : (Try.prog.info? e).map (·.size) = some N) (hk : k < n) :
    (Instr.indexAt ty (.slice (some ⟨g, go, none⟩) n d) (.int .i64 k)).run Try.prog w = .ok (.pointer (some ⟨g, go + k * N, none⟩)) w := by
  have he : Try.prog.elem ty = e := by simp [Program.elem, hu]
  have hsz : (sizeOf (Try.prog.elem ty)).run Try.prog w = .ok N w := by
    rw [he]
    cases hq : Try.prog.info? e with
    | none => simp [hq] at hi
    | some i =>
      have : i.size = N := by simpa [hq] using hi
      simp [sizeOf, typeInfo, hq, this]
  simp only [run_indexAt_slice w ty _ _ _ _ _ (by rw [he]; exact hu)]
  rw [if_pos ⟨by omega, by omega⟩, hsz]
  simp [Addr.add]
theorem row_fits {W0 W : World} {b o N : Nat} {V : Array Value} (t : TypeId) (h : RowAt W b o N V) (hN : V.size ≤ N) (hk : Keep [] W0 W) : Fits [] W0 [⟨b, o, t, V.toList, .row⟩] W := by
  refine ⟨hk, fun i x hi => ?_, fun i j x y hi _ _ c hc _ => ?_⟩
  · cases i with
    | zero =>
      obtain rfl : (⟨b, o, t, V.toList, .row⟩ : Bx) = x := by simpa using hi
      refine ⟨h.lt, fun j v hj => ?_⟩
      have hj' : V[j]? = some v := by simpa using hj
      exact h.get j v (Nat.lt_of_lt_of_le (Array.getElem?_eq_some_iff.1 hj').1 hN) hj'
    | succ i => simp at hi
  · cases i with
    | zero =>
      obtain rfl : (⟨b, o, t, V.toList, .row⟩ : Bx) = x := by simpa using hi
      cases hc
    | succ i => simp at hi
theorem below_same {f : FuncId} {args : Array Value} {w : World} {v : Value} (h : Calls Try.prog f args w fun e w' => e = .returned v ∧ w = w') : Calls Try.prog f args w fun e w' => e = .returned v ∧ Below w.heap.size w w' :=
  h.mono fun _ _ ⟨he, hw⟩ => ⟨he, hw ▸ Below.refl _ _⟩
/-- A struct against itself. -/
theorem opc_self {op : BinOp} {t ty : TypeId} {x y : Operand} {cs : Array Value} {r : Bool} {ft : List Nat} {w0 W : World} {k : Nat} {pre : BL} {E : Env} {ρ : Operand → Value} {o : Oper} (ho : o.op = .binOp op t x y ty) (hx : [ρ x, ρ y] = [.agg cs, .agg cs]) (hk : Keep ft w0 W)
    (hg : (eqGuard op t x y (.agg cs) (.agg cs)).run Try.prog W = .ok () W) (h : (binOp op t (.agg cs) (.agg cs)).run Try.prog W = .ok (.bool r) W) : ∃ x' q w', (execOp ρ o).run Try.prog W = .ok (.value x') w' ∧ GPost ft w0 k (fun _ => .bool r) pre [] [] E W (.returned x') w' q :=
  opc_bin ho hx hk (by rw [Sem.run_bind, hg]; exact h) rfl
end Go.Proofs.Ytlflfpohglgopaa
