/- Plain walking: an element's address, for the tables of drawn regions. -/
import Derived.Test.YtpelolokdmfbdaaGreatRh
namespace Go.Proofs.YtpelolokdmfbdaaGreat
open Go.ChangeShapes Go.WideShapes Go.ChangeAt Go.RowKit Go.Deep

theorem run_ix1 {ρ : Operand → Value} {o : Oper} {w : World} (ty e : TypeId) (x y : Operand) (g go n d k : Nat) (h1 : o.op = .indexAddr ty x y) (hx : ρ x = .slice (some ⟨g, go, none⟩) n d) (hy : ρ y = .int .i64 k)
    (hu : Tryz.prog.underlying ty = some (.slice e)) (hi : (Tryz.prog.info? e).map (·.size) = some 1) (hk : k < n) : (execOp ρ o).run Tryz.prog w = .ok (.value (.pointer (some ⟨g, go + k, none⟩))) w := by
  have he : Tryz.prog.elem ty = e := by simp [Program.elem, hu]
  have hsz : (sizeOf (Tryz.prog.elem ty)).run Tryz.prog w = .ok 1 w := by
    rw [he]
    cases hq : Tryz.prog.info? e with
    | none => simp [hq] at hi
    | some i =>
      have : i.size = 1 := by simpa [hq] using hi
      simp [sizeOf, typeInfo, hq, this]
  unfold execOp
  simp only [h1, hx, hy, Sem.run_bind, Sem.run_pure, run_indexAt_slice w ty _ _ _ _ _ (by rw [he]; exact hu)]
  rw [if_pos ⟨by omega, by omega⟩, hsz]
  simp [Addr.add]
end Go.Proofs.YtpelolokdmfbdaaGreat
