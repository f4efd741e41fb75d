/- An argument that is a slice of structs, opened: rows of cells, whatever the struct. The engine, for laws: a row of questions. The engine: blocks that a callee makes and hands out by a pointer; blocks that a callee turns. -/
import Derived.Test.YtbhnjaajkolklaaBx
import Derived.Test.YtbhnjaajkolklaaEw
import Derived.Test.YtbhnjaajkolklaaEc
set_option linter.all false
namespace Go.Proofs.Ytbhnjaajkolklaa
section
open Go.ChangeShapes Go.WideShapes Go.ChangeAt Go.RowKit Go.Deep

/-- A number that an int has. -/
def InI (a : Int) : Prop := a ≤ 9223372036854775807 ∧ -9223372036854775808 ≤ a

/-- A row of N cells in memory. -/
structure RowAt (W : World) (b o N : Nat) (cs : Array Value) : Prop where
  lt : b < W.heap.size
  c : ∀ j, j < N → W.cell? ⟨b, o + j, none⟩ = cs[j]?
theorem RowAt.below {W w : World} {b o N : Nat} {cs : Array Value} (h : RowAt W b o N cs) (hb : Below W.heap.size W w) : RowAt w b o N cs :=
  ⟨Nat.lt_of_lt_of_le h.lt hb.size, fun j hj => (hb.cell (p := ⟨b, o + j, none⟩) h.lt).trans (h.c j hj)⟩
theorem RowAt.get {W : World} {b o N : Nat} {cs : Array Value} (h : RowAt W b o N cs) (j : Nat) (v : Value) (hj : j < N) (hv : cs[j]? = some v) : W.cell? ⟨b, o + j, none⟩ = some v := (h.c j hj).trans hv
theorem RowAt.get0 {W : World} {b o N : Nat} {cs : Array Value} (h : RowAt W b o N cs) (v : Value) (hj : 0 < N) (hv : cs[0]? = some v) : W.cell? ⟨b, o, none⟩ = some v := (h.c 0 hj).trans hv

section
variable {H : Type} {enc : TypeId × Value → H} {w : World} {base : Nat} {held : Bool}
end
end
section
open Go.ChangeShapes Go.WideShapes Go.ChangeAt Go.RowKit Go.Deep

theorem mixedT : Try.prog.follows .mixedOrders = true := by kernel_rfl
theorem ix_row {w : World} (ty e : TypeId) (g go n d k N : Nat) (hu : Try.prog.underlying ty = some (.slice e)) (hi : (Try.prog.info? e).map (·.size) = some N) (hk : k < n) :
    (Instr.indexAt ty (.slice (some ⟨g, go, none⟩) n d) (.int .i64 k)).run Try.prog w = .ok (.pointer (some ⟨g, go + k * N, none⟩)) w := by
  have he : Try.prog.elem ty = e := by simp [Program.elem, hu]
  have hsz : (sizeOf (Try.prog.elem ty)).run Try.prog w = .ok N w := by
    rw [he]
    cases hq : Try.prog.info? e with
    | none => simp [hq] at hi
    | some i =>
      have : i.size = N := by simpa [hq] using hi
      simp [sizeOf, typeInfo, hq, this]
  simp only [run_indexAt_slice w ty _ _ _ _ _ (by rw [he]; exact hu)]
  rw [if_pos ⟨by omega, by omega⟩, hsz]
  simp [Addr.add]
theorem below_same {f : FuncId} {args : Array Value} {w : World} {v : Value} (h : Calls Try.prog f args w fun e w' => e = .returned v ∧ w = w') : Calls Try.prog f args w fun e w' => e = .returned v ∧ Below w.heap.size w w' :=
  h.mono fun _ _ ⟨he, hw⟩ => ⟨he, hw ▸ Below.refl _ _⟩
/-- A struct against itself. -/
theorem opc_self {op : BinOp} {t ty : TypeId} {x y : Operand} {cs : Array Value} {r : Bool} {ft : List Nat} {w0 W : World} {k : Nat} {pre : BL} {E : Env} {ρ : Operand → Value} {o : Oper} (ho : o.op = .binOp op t x y ty) (hx : [ρ x, ρ y] = [.agg cs, .agg cs]) (hk : Keep ft w0 W)
    (hg : (eqGuard op t x y (.agg cs) (.agg cs)).run Try.prog W = .ok () W) (h : (binOp op t (.agg cs) (.agg cs)).run Try.prog W = .ok (.bool r) W) : ∃ x' q w', (execOp ρ o).run Try.prog W = .ok (.value x') w' ∧ GPost ft w0 k (fun _ => .bool r) pre [] [] E W (.returned x') w' q :=
  opc_bin ho hx hk (by rw [Sem.run_bind, hg]; exact h) rfl
end
section
open Go.ChangeShapes Go.WideShapes Go.ChangeAt Go.RowKit Go.Deep

/-- A block that was handed out. -/
def OwnB (t : TypeId) (cs : List Value) (f : Option Addr) (b : Nat) (W : World) : Prop := f.map (·.block) = some b ∧ W.heap[b]? = some (.cells cs.toArray t)
theorem OwnB.local (t : TypeId) (cs : List Value) (f : Option Addr) (b : Nat) : Local (f.map (·.block)) (OwnB t cs f b) := by
  intro w w' h hb _
  exact ⟨h.1, (hb b h.1).trans h.2⟩
/-- What a call leaves that makes a block and hands it out. -/
def BoxEnd (t : TypeId) (cs : List Value) (w : World) (e : Ending) (w' : World) : Prop :=
  ∃ b, e = .returned (.pointer (some ⟨b, 0, none⟩)) ∧ w.heap.size ≤ b ∧ w'.heap[b]? = some (.cells cs.toArray t) ∧ Below w.heap.size w w'
theorem BoxEnd.post {t : TypeId} {cs : List Value} {ft : List Nat} {w0 W w' : World} {k : Nat} {pre : BL} {E : Env} {e : Ending} (h : BoxEnd t cs W e w') (hk : Keep ft w0 W) :
    ∃ q, GPost ft w0 k (fun E => .pointer (some ⟨E.b k, 0, none⟩)) pre [] [fun E => OwnB t cs (E.f k) (E.b k)] E W e w' q := by
  obtain ⟨b, he, hs, hb, hw⟩ := h
  refine GPost.made (fun _ => (b, some ⟨b, 0, none⟩)) hk hw ?_ fun j p hj => ?_
  · show e = .returned (.pointer (some ⟨(E.set k (b, some ⟨b, 0, none⟩)).b k, 0, none⟩))
    rw [set_c]
    exact he
  · obtain ⟨rfl, rfl⟩ : 0 = j ∧ _ = p := by
      cases j with
      | zero => exact ⟨rfl, Option.some.inj hj⟩
      | succ j => simp at hj
    have e1 : OwnB t cs ((E.set k (b, some ⟨b, 0, none⟩)).f k) ((E.set k (b, some ⟨b, 0, none⟩)).b k) = OwnB t cs (some ⟨b, 0, none⟩) b := by rw [set_f, set_c]
    refine ⟨(congrFun e1 w').mpr ⟨rfl, hb⟩, (congrArg (Local (some b)) e1).mpr (OwnB.local t cs (some ⟨b, 0, none⟩) b), fun c hc => ?_⟩
    obtain rfl := Option.some.inj hc
    exact ⟨(Array.getElem?_eq_some_iff.1 hb).1, hs, fun j' h1 h2 => by simp at h1; omega⟩
/-- One block that is to be written. -/
theorem Fits.box {W : World} {b : Nat} {t : TypeId} {cs : List Value} (h : W.heap[b]? = some (.cells cs.toArray t)) : Fits [b] W [⟨b, 0, t, cs, .own⟩] W := by
  refine ⟨Keep.refl _ _, fun i x hi => ?_, fun i j x y hi hj hij => ?_⟩
  · cases i with
    | zero =>
      obtain rfl : (⟨b, 0, t, cs, .own⟩ : Bx) = x := by simpa using hi
      exact ⟨rfl, Or.inl (List.mem_singleton.2 rfl), h⟩
    | succ i => simp at hi
  · cases i with
    | zero =>
      cases j with
      | zero => exact absurd rfl hij
      | succ j => simp at hj
    | succ i => simp at hi
/-- A row more, which is none of those that may be written. -/
theorem Fits.row {ft : List Nat} {w0 w : World} {h : List Bx} {b o : Nat} {t : TypeId} {cs : List Value} (H : Fits ft w0 h w) (hlt : b < w.heap.size) (hc : ∀ (j : Nat) (v : Value), cs[j]? = some v → w.cell? ⟨b, o + j, none⟩ = some v) (hn : ∀ (i : Nat) (x : Bx), h[i]? = some x → ¬ x.fp b) :
    Fits ft w0 (h ++ [⟨b, o, t, cs, .row⟩]) w := by
  have key : ∀ {i : Nat} {x : Bx}, (h ++ [⟨b, o, t, cs, .row⟩])[i]? = some x → h[i]? = some x ∨ (i = h.length ∧ x = ⟨b, o, t, cs, .row⟩) := fun {i x} hi => by
    rw [List.getElem?_append] at hi
    split at hi
    · exact Or.inl hi
    · rename_i hl
      have hi' : i - h.length = 0 := by
        have := (List.getElem?_eq_some_iff.1 hi).1
        simpa using this
      rw [hi'] at hi
      exact Or.inr ⟨by omega, by simpa using hi.symm⟩
  refine ⟨H.keep, fun i x hi => ?_, fun i j x y hi hj hij c hx hy => ?_⟩
  · rcases key hi with h | ⟨_, rfl⟩
    · exact H.all i x h
    · exact ⟨hlt, hc⟩
  · rcases key hi with h1 | ⟨_, rfl⟩
    · rcases key hj with h2 | ⟨_, rfl⟩
      · exact H.ne i j x y h1 h2 hij c hx hy
      · exact hn i x h1 (by obtain rfl : b = c := Option.some.inj hy; exact hx)
    · cases hx
/-- The blocks as a piece sees them: each may be written that may be. -/
theorem Fits.holds {ft : List Nat} {w0 W : World} {pre : BL} {E : Env} (H : Fits ft w0 (pre.map fun p => p.2 E) W) : ∀ p ∈ pre, (p.2 E).Holds ft w0 W := fun p hp => by
  obtain ⟨i, hi⟩ := List.getElem?_of_mem hp
  exact H.all i _ (by rw [List.getElem?_map, hi]; rfl)
end
end Go.Proofs.Ytbhnjaajkolklaa
