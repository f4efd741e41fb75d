/- Plain walking: an element's address, for the tables of drawn regions. -/
import Derived.Test.YtlflfpohglgopaaRh
import Derived.Test.YtlflfpohglgopaaSl
set_option linter.all false
namespace Go.Proofs.Ytlflfpohglgopaa
open Go.ChangeShapes Go.WideShapes Go.ChangeAt Go.RowKit Go.Deep

theorem run_ix1 {ρ : Operand → Value} {o : Oper} {w : World} (ty e : TypeId) (x y : Operand) (g go n d k : Nat) (h1 : o.op = .indexAddr ty x y) (hx : ρ x = .slice (some ⟨g, go, none⟩) n d) (hy : ρ y = .int .i64 k)
    (hu : Try.prog.underlying ty = some (.slice e)) (hi : (Try.prog.info? e).map (·.size) = some 1) (hk : k < n) : (execOp ρ o).run Try.prog w = .ok (.value (.pointer (some ⟨g, go + k, none⟩))) w := by
  have he : Try.prog.elem ty = e := by simp [Program.elem, hu]
  have hsz : (sizeOf (Try.prog.elem ty)).run Try.prog w = .ok 1 w := by
    rw [he]
    cases hq : Try.prog.info? e with
    | none => simp [hq] at hi
    | some i =>
      have : i.size = 1 := by simpa [hq] using hi
      simp [sizeOf, typeInfo, hq, this]
  unfold execOp
  simp only [h1, hx, hy, Sem.run_bind, Sem.run_pure, run_indexAt_slice w ty _ _ _ _ _ (by rw [he]; exact hu)]
  rw [if_pos ⟨by omega, by omega⟩, hsz]
  simp [Addr.add]
theorem run_ixN {ρ : Operand → Value} {o : Oper} {w : World} (ty e : TypeId) (x y : Operand) (g go n d k N : Nat) (h1 : o.op = .indexAddr ty x y) (hx : ρ x = .slice (some ⟨g, go, none⟩) n d) (hy : ρ y = .int .i64 k)
    (hu : Try.prog.underlying ty = some (.slice e)) (hi : (Try.prog.info? e).map (·.size) = some N) (hk : k < n) : (execOp ρ o).run Try.prog w = .ok (.value (.pointer (some ⟨g, go + k * N, none⟩))) w := by
  have he : Try.prog.elem ty = e := by simp [Program.elem, hu]
  have hsz : (sizeOf (Try.prog.elem ty)).run Try.prog w = .ok N w := by
    rw [he]
    cases hq : Try.prog.info? e with
    | none => simp [hq] at hi
    | some i =>
      have : i.size = N := by simpa [hq] using hi
      simp [sizeOf, typeInfo, hq, this]
  unfold execOp
  simp only [h1, hx, hy, Sem.run_bind, Sem.run_pure, run_indexAt_slice w ty _ _ _ _ _ (by rw [he]; exact hu)]
  rw [if_pos ⟨by omega, by omega⟩, hsz]
  simp [Addr.add]
theorem RowAt.sub {w : World} {b o N : Nat} {cs : Array Value} (h : RowAt w b o N cs) (off : Nat) (ds : Array Value) (hs : (cs.extract off (off + ds.size)).toList = ds.toList) (hN : off + ds.size ≤ N) : ∀ j v, ds[j]? = some v → w.cell? ⟨b, o + off + j, none⟩ = some v := by
  intro j v hj
  have hlt : j < ds.size := (Array.getElem?_eq_some_iff.1 hj).1
  rw [Nat.add_assoc]
  refine h.get (off + j) v (by omega) ?_
  rw [← Array.getElem?_toList, ← hs, Array.getElem?_toList, Array.getElem?_extract] at hj
  split at hj
  · exact hj
  · cases hj
end Go.Proofs.Ytlflfpohglgopaa
