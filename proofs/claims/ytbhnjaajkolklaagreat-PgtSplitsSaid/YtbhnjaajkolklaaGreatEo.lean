/- The engine: an element of a row that is a fact: its place, its cells; a fit, seen from here. An argument that is a slice of structs, opened: rows of cells, whatever the struct. The engine, for laws: a row of questions. The engine: blocks that a callee makes and hands out by a pointer; blocks that a callee turns. -/
import Derived.Test.YtbhnjaajkolklaaGreatEb
import Derived.Deep.MidRow
import Derived.Test.YtbhnjaajkolklaaGreatMemA
import Derived.Test.YtbhnjaajkolklaaGreatEw
set_option linter.all false
namespace Go.Proofs.YtbhnjaajkolklaaGreat
section
open Go.ChangeShapes Go.WideShapes Go.ChangeAt Go.RowKit Go.Deep

def blkOf : Option Addr → Nat
  | some a => a.block
  | none => 0
theorem OwnP.at {e : TypeId} {size : Nat} {f : Option Addr} {n c : Nat} {xs : List Value} {W : World} (h : OwnP e size f n c xs W) (hn : 0 < n) : f = some ⟨blkOf f, 0, none⟩ ∧ ∀ j v, xs[j]? = some v → W.cell? ⟨blkOf f, j, none⟩ = some v := by
  rcases h.2 with ⟨_, h0⟩ | ⟨g, cap, cur, hv, _⟩
  · omega
  · injection hv with hf
    subst hf
    refine ⟨rfl, fun j v hj => ?_⟩
    have := h.cells (g := g) rfl j v hj
    rwa [add_none, Nat.zero_add] at this
/-- An operation that changes nothing. -/
theorem opc_same {P : Program} {ft : List Nat} {w0 W : World} {k : Nat} {v : Env → Value} {pre : BL} {E : Env} {ρ : Operand → Value} {o : Oper} (hk : Keep ft w0 W) (h : (execOp ρ o).run P W = .ok (.value (v E)) W) :
    ∃ x q w', (execOp ρ o).run P W = .ok (.value x) w' ∧ GPost ft w0 k v pre [] [] E W (.returned x) w' q :=
  ⟨v E, fun _ => (0, none), W, h, rfl, fun _ hp => (by cases hp), hk, Nat.le_refl _, fun _ _ _ => rfl, fun _ _ hp => (by simp at hp)⟩
theorem ix_opc {P : Program} {ft : List Nat} {w0 W : World} {k n N : Nat} {j : Int} {c : Nat} {f : Option Addr} {v : Env → Value} {pre : BL} {E : Env} {ρ : Operand → Value} {o : Oper} {t e : TypeId} {s i : Operand} {xs : List Value} {size : Nat} (ho : o.op = .indexAddr t s i) (hx : [ρ s, ρ i] = [.slice f n c, .int .i64 j]) (hk : Keep ft w0 W)
    (hu : P.underlying t = some (.slice e)) (hi : (P.info? e).map (·.size) = some N) (hP : OwnP e size f n c xs W) (h0 : 0 ≤ j) (h1 : j < n) (hv : v E = .pointer (some ⟨blkOf f, j.toNat * N, none⟩)) :
    ∃ x q w', (execOp ρ o).run P W = .ok (.value x) w' ∧ GPost ft w0 k v pre [] [] E W (.returned x) w' q := by
  refine opc_same hk ?_
  rw [hv]
  simp only [List.cons.injEq, and_true] at hx
  obtain ⟨hf, _⟩ := hP.at (by omega)
  have he : P.elem t = e := by simp [Program.elem, hu]
  have hsz : (sizeOf (P.elem t)).run P W = .ok N W := by
    rw [he]
    cases hq : P.info? e with
    | none => simp [hq] at hi
    | some i =>
      have : i.size = N := by simpa [hq] using hi
      simp [sizeOf, typeInfo, hq, this]
  have hr : (Instr.indexAt t (.slice f n c) (.int .i64 j)).run P W = .ok (.pointer (some ⟨blkOf f, j.toNat * N, none⟩)) W := by
    rw [hf]
    simp only [run_indexAt_slice W t _ _ _ _ _ (by rw [he]; exact hu)]
    rw [if_pos ⟨h0, h1⟩, hsz]
    simp [Addr.add, blkOf]
    exact fun h => h.symm
  unfold execOp
  simp only [ho, hx.1, hx.2, Sem.run_bind, hr, Result.andThen_ok, Sem.run_pure]
/-- A cell of an element. -/
theorem ld_opc {P : Program} {ft : List Nat} {w0 W : World} {k n c d' : Nat} {f : Option Addr} {pre : BL} {E : Env} {ρ : Operand → Value} {o : Oper} {t e : TypeId} {p : Operand} {xs : List Value} {size : Nat} {d : TypeDesc} {v : Value} (ho : o.op = .load t p) (hx : [ρ p] = [.pointer (some ⟨blkOf f, c, none⟩)]) (hk : Keep ft w0 W)
    (hu : P.underlying t = some d) (hd : d.isRow = false) (hP : OwnP e size f n d' xs W) (hn : 0 < n) (hv : xs[c]? = some v) :
    ∃ x q w', (execOp ρ o).run P W = .ok (.value x) w' ∧ GPost ft w0 k (fun _ => v) pre [] [] E W (.returned x) w' q := by
  refine opc_same hk ?_
  simp only [List.cons.injEq, and_true] at hx
  have hc := (hP.at hn).2 c v hv
  have hagg : (isAgg t).run P W = .ok false W := by
    unfold isAgg
    rw [Sem.run_bind, run_underlying hu W]
    cases d <;> simp_all
  unfold execOp
  simp [ho, hx, Instr.loadAt, Instr.sureAddr, loadVar, hagg, hc]
/-- A fit, seen from here: what may be turned is told. -/
theorem Fits.self {ft ft' : List Nat} {w0 W : World} {h : List Bx} (H : Fits ft w0 h W) (hf : ∀ (i : Nat) (x : Bx), h[i]? = some x → ∀ b, x.fp b → b ∈ ft') : Fits ft' W h W := by
  refine ⟨Keep.refl _ _, fun i x hi => ?_, H.ne⟩
  have hx := H.all i x hi
  have hfx := hf i x hi
  obtain ⟨b, o, t, cs, k⟩ := x
  cases k with
  | no => exact hx
  | row => exact hx
  | own => exact ⟨hx.1, Or.inl (hfx b rfl), hx.2.2⟩
  | fact q p => exact ⟨hx.1, fun b' hb => ⟨Or.inl (hfx b' hb), (hx.2.1 b' hb).2⟩, hx.2.2⟩
  | facts q p => exact ⟨hx.1, fun b' hb => ⟨Or.inl (hfx b' hb), (hx.2.1 b' hb).2⟩, hx.2.2⟩
end
section
open Go.ChangeShapes Go.WideShapes Go.ChangeAt Go.RowKit Go.Deep

/-- A number that an int has. -/
def InI (a : Int) : Prop := a ≤ 9223372036854775807 ∧ -9223372036854775808 ≤ a

/-- A row of N cells in memory. -/
structure RowAt (W : World) (b o N : Nat) (cs : Array Value) : Prop where
  lt : b < W.heap.size
  c : ∀ j, j < N → W.cell? ⟨b, o + j, none⟩ = cs[j]?
theorem RowAt.below {W w : World} {b o N : Nat} {cs : Array Value} (h : RowAt W b o N cs) (hb : Below W.heap.size W w) : RowAt w b o N cs :=
  ⟨Nat.lt_of_lt_of_le h.lt hb.size, fun j hj => (hb.cell (p := ⟨b, o + j, none⟩) h.lt).trans (h.c j hj)⟩
theorem RowAt.get {W : World} {b o N : Nat} {cs : Array Value} (h : RowAt W b o N cs) (j : Nat) (v : Value) (hj : j < N) (hv : cs[j]? = some v) : W.cell? ⟨b, o + j, none⟩ = some v := (h.c j hj).trans hv
theorem RowAt.get0 {W : World} {b o N : Nat} {cs : Array Value} (h : RowAt W b o N cs) (v : Value) (hj : 0 < N) (hv : cs[0]? = some v) : W.cell? ⟨b, o, none⟩ = some v := (h.c 0 hj).trans hv

section
variable {H : Type} {enc : TypeId × Value → H} {w : World} {base : Nat} {held : Bool}
end
end
section
open Go.ChangeShapes Go.WideShapes Go.ChangeAt Go.RowKit Go.Deep

theorem mixedT : Tryz.prog.follows .mixedOrders = true := by kernel_rfl
theorem ix_row {w : World} (ty e : TypeId) (g go n d k N : Nat) (hu : Tryz.prog.underlying ty = some (.slice e)) (hi : (Tryz.prog.info? e).map (·.size) = some N) (hk : k < n) :
    (Instr.indexAt ty (.slice (some ⟨g, go, none⟩) n d) (.int .i64 k)).run Tryz.prog w = .ok (.pointer (some ⟨g, go + k * N, none⟩)) w := by
  have he : Tryz.prog.elem ty = e := by simp [Program.elem, hu]
  have hsz : (sizeOf (Tryz.prog.elem ty)).run Tryz.prog w = .ok N w := by
    rw [he]
    cases hq : Tryz.prog.info? e with
    | none => simp [hq] at hi
    | some i =>
      have : i.size = N := by simpa [hq] using hi
      simp [sizeOf, typeInfo, hq, this]
  simp only [run_indexAt_slice w ty _ _ _ _ _ (by rw [he]; exact hu)]
  rw [if_pos ⟨by omega, by omega⟩, hsz]
  simp [Addr.add]
theorem below_same {f : FuncId} {args : Array Value} {w : World} {v : Value} (h : Calls Tryz.prog f args w fun e w' => e = .returned v ∧ w = w') : Calls Tryz.prog f args w fun e w' => e = .returned v ∧ Below w.heap.size w w' :=
  h.mono fun _ _ ⟨he, hw⟩ => ⟨he, hw ▸ Below.refl _ _⟩
/-- A struct against itself. -/
theorem opc_self {op : BinOp} {t ty : TypeId} {x y : Operand} {cs : Array Value} {r : Bool} {ft : List Nat} {w0 W : World} {k : Nat} {pre : BL} {E : Env} {ρ : Operand → Value} {o : Oper} (ho : o.op = .binOp op t x y ty) (hx : [ρ x, ρ y] = [.agg cs, .agg cs]) (hk : Keep ft w0 W)
    (hg : (eqGuard op t x y (.agg cs) (.agg cs)).run Tryz.prog W = .ok () W) (h : (binOp op t (.agg cs) (.agg cs)).run Tryz.prog W = .ok (.bool r) W) : ∃ x' q w', (execOp ρ o).run Tryz.prog W = .ok (.value x') w' ∧ GPost ft w0 k (fun _ => .bool r) pre [] [] E W (.returned x') w' q :=
  opc_bin ho hx hk (by rw [Sem.run_bind, hg]; exact h) rfl
end
section
open Go.ChangeShapes Go.WideShapes Go.ChangeAt Go.RowKit Go.Deep

/-- A block that was handed out. -/
def OwnB (t : TypeId) (cs : List Value) (f : Option Addr) (b : Nat) (W : World) : Prop := f.map (·.block) = some b ∧ W.heap[b]? = some (.cells cs.toArray t)
theorem OwnB.local (t : TypeId) (cs : List Value) (f : Option Addr) (b : Nat) : Local (f.map (·.block)) (OwnB t cs f b) := by
  intro w w' h hb _
  exact ⟨h.1, (hb b h.1).trans h.2⟩
/-- What a call leaves that makes a block and hands it out. -/
def BoxEnd (t : TypeId) (cs : List Value) (w : World) (e : Ending) (w' : World) : Prop :=
  ∃ b, e = .returned (.pointer (some ⟨b, 0, none⟩)) ∧ w.heap.size ≤ b ∧ w'.heap[b]? = some (.cells cs.toArray t) ∧ Below w.heap.size w w'
theorem BoxEnd.post {t : TypeId} {cs : List Value} {ft : List Nat} {w0 W w' : World} {k : Nat} {pre : BL} {E : Env} {e : Ending} (h : BoxEnd t cs W e w') (hk : Keep ft w0 W) :
    ∃ q, GPost ft w0 k (fun E => .pointer (some ⟨E.b k, 0, none⟩)) pre [] [fun E => OwnB t cs (E.f k) (E.b k)] E W e w' q := by
  obtain ⟨b, he, hs, hb, hw⟩ := h
  refine GPost.made (fun _ => (b, some ⟨b, 0, none⟩)) hk hw ?_ fun j p hj => ?_
  · show e = .returned (.pointer (some ⟨(E.set k (b, some ⟨b, 0, none⟩)).b k, 0, none⟩))
    rw [set_c]
    exact he
  · obtain ⟨rfl, rfl⟩ : 0 = j ∧ _ = p := by
      cases j with
      | zero => exact ⟨rfl, Option.some.inj hj⟩
      | succ j => simp at hj
    have e1 : OwnB t cs ((E.set k (b, some ⟨b, 0, none⟩)).f k) ((E.set k (b, some ⟨b, 0, none⟩)).b k) = OwnB t cs (some ⟨b, 0, none⟩) b := by rw [set_f, set_c]
    refine ⟨(congrFun e1 w').mpr ⟨rfl, hb⟩, (congrArg (Local (some b)) e1).mpr (OwnB.local t cs (some ⟨b, 0, none⟩) b), fun c hc => ?_⟩
    obtain rfl := Option.some.inj hc
    exact ⟨(Array.getElem?_eq_some_iff.1 hb).1, hs, fun j' h1 h2 => by simp at h1; omega⟩
/-- One block that is to be written. -/
theorem Fits.box {W : World} {b : Nat} {t : TypeId} {cs : List Value} (h : W.heap[b]? = some (.cells cs.toArray t)) : Fits [b] W [⟨b, 0, t, cs, .own⟩] W := by
  refine ⟨Keep.refl _ _, fun i x hi => ?_, fun i j x y hi hj hij => ?_⟩
  · cases i with
    | zero =>
      obtain rfl : (⟨b, 0, t, cs, .own⟩ : Bx) = x := by simpa using hi
      exact ⟨rfl, Or.inl (List.mem_singleton.2 rfl), h⟩
    | succ i => simp at hi
  · cases i with
    | zero =>
      cases j with
      | zero => exact absurd rfl hij
      | succ j => simp at hj
    | succ i => simp at hi
/-- A row more, which is none of those that may be written. -/
theorem Fits.row {ft : List Nat} {w0 w : World} {h : List Bx} {b o : Nat} {t : TypeId} {cs : List Value} (H : Fits ft w0 h w) (hlt : b < w.heap.size) (hc : ∀ (j : Nat) (v : Value), cs[j]? = some v → w.cell? ⟨b, o + j, none⟩ = some v) (hn : ∀ (i : Nat) (x : Bx), h[i]? = some x → ¬ x.fp b) :
    Fits ft w0 (h ++ [⟨b, o, t, cs, .row⟩]) w := by
  have key : ∀ {i : Nat} {x : Bx}, (h ++ [⟨b, o, t, cs, .row⟩])[i]? = some x → h[i]? = some x ∨ (i = h.length ∧ x = ⟨b, o, t, cs, .row⟩) := fun {i x} hi => by
    rw [List.getElem?_append] at hi
    split at hi
    · exact Or.inl hi
    · rename_i hl
      have hi' : i - h.length = 0 := by
        have := (List.getElem?_eq_some_iff.1 hi).1
        simpa using this
      rw [hi'] at hi
      exact Or.inr ⟨by omega, by simpa using hi.symm⟩
  refine ⟨H.keep, fun i x hi => ?_, fun i j x y hi hj hij c hx hy => ?_⟩
  · rcases key hi with h | ⟨_, rfl⟩
    · exact H.all i x h
    · exact ⟨hlt, hc⟩
  · rcases key hi with h1 | ⟨_, rfl⟩
    · rcases key hj with h2 | ⟨_, rfl⟩
      · exact H.ne i j x y h1 h2 hij c hx hy
      · exact hn i x h1 (by obtain rfl : b = c := Option.some.inj hy; exact hx)
    · cases hx
/-- The blocks as a piece sees them: each may be written that may be. -/
theorem Fits.holds {ft : List Nat} {w0 W : World} {pre : BL} {E : Env} (H : Fits ft w0 (pre.map fun p => p.2 E) W) : ∀ p ∈ pre, (p.2 E).Holds ft w0 W := fun p hp => by
  obtain ⟨i, hi⟩ := List.getElem?_of_mem hp
  exact H.all i _ (by rw [List.getElem?_map, hi]; rfl)
/-- Two structs against each other. -/
theorem opc_two {op : BinOp} {t ty : TypeId} {x y : Operand} {cs ds : Array Value} {r : Bool} {ft : List Nat} {w0 W : World} {k : Nat} {pre : BL} {E : Env} {ρ : Operand → Value} {o : Oper} (ho : o.op = .binOp op t x y ty) (hx : [ρ x, ρ y] = [.agg cs, .agg ds]) (hk : Keep ft w0 W)
    (hg : (eqGuard op t x y (.agg cs) (.agg ds)).run Tryz.prog W = .ok () W) (h : (binOp op t (.agg cs) (.agg ds)).run Tryz.prog W = .ok (.bool r) W) : ∃ x' q w', (execOp ρ o).run Tryz.prog W = .ok (.value x') w' ∧ GPost ft w0 k (fun _ => .bool r) pre [] [] E W (.returned x') w' q :=
  opc_bin ho hx hk (by rw [Sem.run_bind, hg]; exact h) rfl
end
end Go.Proofs.YtbhnjaajkolklaaGreat
