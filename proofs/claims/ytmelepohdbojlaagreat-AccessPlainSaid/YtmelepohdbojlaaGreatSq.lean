/- Plain walking: an operation of a region that draws its order is taken first, in short. Plain walking: what an operation does, for the tables of drawn regions; an operation that is taken first, in short. An argument that is a slice of structs, opened: rows of cells, whatever the struct. Plain walking: an element's address, for the tables of drawn regions. The engine, for laws: a row of questions. Arguments that hold slices, opened: sizes, rows of structs, words and numbers. -/
import Derived.Test.YtmelepohdbojlaaGreatTl
import Derived.OrdersHeld
import Derived.Deep.RegionHeld3
import Derived.Test.YtmelepohdbojlaaGreatRg
import Derived.Test.YtmelepohdbojlaaGreatMemA
import Derived.Test.YtmelepohdbojlaaGreatEw
import Derived.SizedLaws
set_option linter.all false
namespace Go.Proofs.YtmelepohdbojlaaGreat
section
open Go.RowKit
section
variable {P : Program} {ops : Array Oper} {Q : Exit → Act → World → Prop} {md : Region.Mode} {S : World → Prop}
theorem pA {α : Type} (l : List α) (i : Nat) (a : α) : l.toArray.setIfInBounds i a = (l.set i a).toArray := by simp
theorem pB {α : Type} (l : List α) (a b : α) : (a :: l).set 0 b = b :: l := rfl
theorem pC {α : Type} (l : List α) (a b : α) (n : Nat) : (a :: l).set (n + 1) b = a :: l.set n b := rfl
theorem tkR (i d : Nat) {o1 : Op} {o2 : TypeId} {o3 : String} {o4 : Array Edge} {o5 : Option (Nat × Bool)} {v : Value} {fuel : Nat} {listed : Array Bool} {a : Act} {w : World} (hi : ops[i]? = some ⟨some d, o1, o2, o3, o4, o5⟩) (hS : S w)
  (hy : ∀ w', S w' → (execOp a.eval ⟨some d, o1, o2, o3, o4, o5⟩).run P w' = .ok (.value v) w')
  (h : wpAnyH P md ops Q S fuel (listed.setIfInBounds i true) ⟨a.tmps.setIfInBounds d v, a.defers⟩ w)
  (hg : Region.wanted ⟨some d, o1, o2, o3, o4, o5⟩ (yielded ops a.tmps) = true := by rfl) (hs : Region.noSelect ops = true := by kernel_rfl) (hf : Region.free md ops listed i = true := by kernel_rfl) (hr : (Region.ready md ops listed).contains i = true := by kernel_rfl)
  (hQ : ∀ c a w, Q (.panic c) (a.put (some d) v) w → Q (.panic c) a w := by exact fun _ _ _ h => h) : wpAnyH P md ops Q S (fuel + 1) listed a w :=
 wpAnyH_take (oi := ⟨some d, o1, o2, o3, o4, o5⟩) hi hs hf hr hQ (.inl ⟨hg, hy⟩) hS h
theorem tkU (i d : Nat) {o1 : Op} {o2 : TypeId} {o3 : String} {o4 : Array Edge} {o5 : Option (Nat × Bool)} {fuel : Nat} {listed : Array Bool} {a : Act} {w : World} (hi : ops[i]? = some ⟨some d, o1, o2, o3, o4, o5⟩) (hS : S w)
  (h : wpAnyH P md ops Q S fuel (listed.setIfInBounds i true) ⟨a.tmps.setIfInBounds d undef, a.defers⟩ w)
  (hg : Region.wanted ⟨some d, o1, o2, o3, o4, o5⟩ (yielded ops a.tmps) = false := by rfl) (hs : Region.noSelect ops = true := by kernel_rfl) (hf : Region.free md ops listed i = true := by kernel_rfl) (hr : (Region.ready md ops listed).contains i = true := by kernel_rfl)
  (hQ : ∀ c a w, Q (.panic c) (a.put (some d) undef) w → Q (.panic c) a w := by exact fun _ _ _ h => h) : wpAnyH P md ops Q S (fuel + 1) listed a w :=
 wpAnyH_take (oi := ⟨some d, o1, o2, o3, o4, o5⟩) hi hs hf hr hQ (.inr ⟨hg, rfl⟩) hS h
end
end
section
open Go.ChangeShapes Go.WideShapes Go.ChangeAt Go.RowKit Go.Deep
section
variable {P : Program} {ρ : Operand → Value} {o : Oper} {w : World}
theorem run_ld1 (ty : TypeId) (x : Operand) (b off : Nat) {v : Value} {d : TypeDesc} (h1 : o.op = .load ty x) (h2 : ρ x = .pointer (some ⟨b, off, none⟩)) (hu : P.underlying ty = some d)
  (hd : (match d with | .struct _ | .array _ _ => false | _ => true) = true) (hc : w.cell? ⟨b, off, none⟩ = some v) : (execOp ρ o).run P w = .ok (.value v) w := by
 have hagg : (isAgg ty).run P w = .ok false w := by
  unfold isAgg
  rw [Sem.run_bind, run_underlying hu w]
  cases d <;> simp_all
 unfold execOp
 simp only [h1, h2, Instr.loadAt, Instr.sureAddr, Sem.run_bind, Sem.run_pure, Result.andThen_ok, loadVar, hagg]
 simp [hc]
theorem run_ldN (ty : TypeId) (x : Operand) (b off : Nat) {cs : Array Value} {d : TypeDesc} (h1 : o.op = .load ty x) (h2 : ρ x = .pointer (some ⟨b, off, none⟩)) (hu : P.underlying ty = some d)
  (hd : (match d with | .struct _ | .array _ _ => true | _ => false) = true) (hi : (P.info? ty).map (·.size) = some cs.size) (hc : ∀ j v, cs[j]? = some v → w.cell? ⟨b, off + j, none⟩ = some v) : (execOp ρ o).run P w = .ok (.value (.agg cs)) w := by
 have hl : (loadCells ⟨b, off, none⟩ cs.toList.length).run P w = .ok cs.toList.toArray w :=
  run_loadCells_list (P := P) w ⟨b, off, none⟩ cs.toList (fun j v hv => by
   rw [add_none]
   exact hc j v (by simpa using hv))
 cases hq : P.info? ty with
 | none => simp [hq] at hi
 | some i =>
  have hs : i.size = cs.size := by simpa [hq] using hi
  have hagg : (isAgg ty).run P w = .ok true w := by
   unfold isAgg
   rw [Sem.run_bind, run_underlying hu w]
   cases d <;> simp_all
  simp only [Array.length_toList, Array.toArray_toList] at hl
  unfold execOp
  simp only [h1, h2, Instr.loadAt, Instr.sureAddr, Sem.run_bind, Sem.run_pure, Result.andThen_ok]
  simp [loadVar, Sem.run_bind, hagg, sizeOf, typeInfo, hq, hs, hl]
end
section
variable {P : Program} {ops : Array Oper} {X : Type}
def AllObl (P : Program) (ops : Array Oper) (I0 : World → Prop) (A : X → (Nat → Nat) → Act) (U : List (Ent X)) : Nat → List (Ent X) → Prop
 | _, [] => True
 | i, e :: V => e.k.obl P ops I0 A U i ∧ AllObl P ops I0 A U (i + 1) V
theorem AllObl.get {I0 : World → Prop} {A : X → (Nat → Nat) → Act} {U : List (Ent X)} : ∀ {V : List (Ent X)} {i : Nat}, AllObl P ops I0 A U i V → ∀ (k : Nat) (e : Ent X), V[k]? = some e → e.k.obl P ops I0 A U (i + k)
 | [], _, _, _, _, h => by simp at h
 | e :: V, i, h, 0, e', he => by
  obtain rfl : e = e' := by simpa using he
  exact h.1
 | e :: V, i, h, k + 1, e', he => by
  have := h.2.get k e' (by simpa using he)
  rwa [show i + 1 + k = i + (k + 1) by omega] at this
theorem AllObl.all {I0 : World → Prop} {A : X → (Nat → Nat) → Act} {U : List (Ent X)} (h : AllObl P ops I0 A U 0 U) : ∀ (i : Nat) (e : Ent X), U[i]? = some e → e.k.obl P ops I0 A U i := fun i e he => by
 have := h.get i e he
 rwa [Nat.zero_add] at this
end
section
variable {X : Type}
theorem BoxAt.sub {w : World} {b : Nat} {cs : Array Value} {t : TypeId} (h : BoxAt w b cs t) (off : Nat) (ds : Array Value) (hs : (cs.extract off (off + ds.size)).toList = ds.toList) : ∀ j v, ds[j]? = some v → w.cell? ⟨b, off + j, none⟩ = some v := by
 intro j v hj
 refine h.get (off + j) v ?_
 rw [← Array.getElem?_toList, ← hs, Array.getElem?_toList, Array.getElem?_extract] at hj
 split at hj
 ·exact hj
 ·cases hj
end
end
section
open Go.ChangeShapes Go.WideShapes Go.ChangeAt Go.RowKit Go.Deep
def InI (a : Int) : Prop := a ≤ 9223372036854775807 ∧ -9223372036854775808 ≤ a
structure RowAt (W : World) (b o N : Nat) (cs : Array Value) : Prop where
 lt : b < W.heap.size
 c : ∀ j, j < N → W.cell? ⟨b, o + j, none⟩ = cs[j]?
theorem RowAt.below {W w : World} {b o N : Nat} {cs : Array Value} (h : RowAt W b o N cs) (hb : Below W.heap.size W w) : RowAt w b o N cs :=
 ⟨Nat.lt_of_lt_of_le h.lt hb.size, fun j hj => (hb.cell (p := ⟨b, o + j, none⟩) h.lt).trans (h.c j hj)⟩
theorem RowAt.get {W : World} {b o N : Nat} {cs : Array Value} (h : RowAt W b o N cs) (j : Nat) (v : Value) (hj : j < N) (hv : cs[j]? = some v) : W.cell? ⟨b, o + j, none⟩ = some v := (h.c j hj).trans hv
theorem RowAt.get0 {W : World} {b o N : Nat} {cs : Array Value} (h : RowAt W b o N cs) (v : Value) (hj : 0 < N) (hv : cs[0]? = some v) : W.cell? ⟨b, o, none⟩ = some v := (h.c 0 hj).trans hv
section
variable {H : Type} {enc : TypeId × Value → H} {w : World} {base : Nat} {held : Bool}
end
end
section
open Go.ChangeShapes Go.WideShapes Go.ChangeAt Go.RowKit Go.Deep
theorem run_ixN {ρ : Operand → Value} {o : Oper} {w : World} (ty e : TypeId) (x y : Operand) (g go n d k N : Nat) (h1 : o.op = .indexAddr ty x y) (hx : ρ x = .slice (some ⟨g, go, none⟩) n d) (hy : ρ y = .int .i64 k)
  (hu : Tryz.prog.underlying ty = some (.slice e)) (hi : (Tryz.prog.info? e).map (·.size) = some N) (hk : k < n) : (execOp ρ o).run Tryz.prog w = .ok (.value (.pointer (some ⟨g, go + k * N, none⟩))) w := by
 have he : Tryz.prog.elem ty = e := by simp [Program.elem, hu]
 have hsz : (sizeOf (Tryz.prog.elem ty)).run Tryz.prog w = .ok N w := by
  rw [he]
  cases hq : Tryz.prog.info? e with
  | none => simp [hq] at hi
  | some i =>
   have : i.size = N := by simpa [hq] using hi
   simp [sizeOf, typeInfo, hq, this]
 unfold execOp
 simp only [h1, hx, hy, Sem.run_bind, Sem.run_pure, run_indexAt_slice w ty _ _ _ _ _ (by rw [he]; exact hu)]
 rw [if_pos ⟨by omega, by omega⟩, hsz]
 simp [Addr.add]
theorem RowAt.sub {w : World} {b o N : Nat} {cs : Array Value} (h : RowAt w b o N cs) (off : Nat) (ds : Array Value) (hs : (cs.extract off (off + ds.size)).toList = ds.toList) (hN : off + ds.size ≤ N) : ∀ j v, ds[j]? = some v → w.cell? ⟨b, o + off + j, none⟩ = some v := by
 intro j v hj
 have hlt : j < ds.size := (Array.getElem?_eq_some_iff.1 hj).1
 rw [Nat.add_assoc]
 refine h.get (off + j) v (by omega) ?_
 rw [← Array.getElem?_toList, ← hs, Array.getElem?_toList, Array.getElem?_extract] at hj
 split at hj
 ·exact hj
 ·cases hj
end
section
open Go.ChangeShapes Go.WideShapes Go.ChangeAt Go.RowKit Go.Deep
theorem mixedT : Tryz.prog.follows .mixedOrders = true := by kernel_rfl
theorem ix_row {w : World} (ty e : TypeId) (g go n d k N : Nat) (hu : Tryz.prog.underlying ty = some (.slice e)) (hi : (Tryz.prog.info? e).map (·.size) = some N) (hk : k < n) :
  (Instr.indexAt ty (.slice (some ⟨g, go, none⟩) n d) (.int .i64 k)).run Tryz.prog w = .ok (.pointer (some ⟨g, go + k * N, none⟩)) w := by
 have he : Tryz.prog.elem ty = e := by simp [Program.elem, hu]
 have hsz : (sizeOf (Tryz.prog.elem ty)).run Tryz.prog w = .ok N w := by
  rw [he]
  cases hq : Tryz.prog.info? e with
  | none => simp [hq] at hi
  | some i =>
   have : i.size = N := by simpa [hq] using hi
   simp [sizeOf, typeInfo, hq, this]
 simp only [run_indexAt_slice w ty _ _ _ _ _ (by rw [he]; exact hu)]
 rw [if_pos ⟨by omega, by omega⟩, hsz]
 simp [Addr.add]
theorem below_same {f : FuncId} {args : Array Value} {w : World} {v : Value} (h : Calls Tryz.prog f args w fun e w' => e = .returned v ∧ w = w') : Calls Tryz.prog f args w fun e w' => e = .returned v ∧ Below w.heap.size w w' :=
 h.mono fun _ _ ⟨he, hw⟩ => ⟨he, hw ▸ Below.refl _ _⟩
theorem opc_self {op : BinOp} {t ty : TypeId} {x y : Operand} {cs : Array Value} {r : Bool} {ft : List Nat} {w0 W : World} {k : Nat} {pre : BL} {E : Env} {ρ : Operand → Value} {o : Oper} (ho : o.op = .binOp op t x y ty) (hx : [ρ x, ρ y] = [.agg cs, .agg cs]) (hk : Keep ft w0 W)
  (hg : (eqGuard op t x y (.agg cs) (.agg cs)).run Tryz.prog W = .ok () W) (h : (binOp op t (.agg cs) (.agg cs)).run Tryz.prog W = .ok (.bool r) W) : ∃ x' q w', (execOp ρ o).run Tryz.prog W = .ok (.value x') w' ∧ GPost ft w0 k (fun _ => .bool r) pre [] [] E W (.returned x') w' q :=
 opc_bin ho hx hk (by rw [Sem.run_bind, hg]; exact h) rfl
end
section
open Go.ChangeShapes Go.WideShapes Go.ChangeAt Go.RowKit Go.Deep
section
variable {H : Type} {enc : TypeId × Value → H} {w : World} {base : Nat} {held : Bool}
def Lite (P : Program) (t : TypeId) (d : DataW H) : Prop := ∀ n ∈ d.weights P t, n ≤ reachBytes
theorem weightsAll_mem {P : Program} {e : TypeId} : ∀ {ds : List (DataW H)} {d : DataW H}, d ∈ ds → ∀ n ∈ d.weights P e, n ∈ DataW.weightsAll P e ds
 | d0 :: ds, d, hd, n, hn => by
  simp only [DataW.weightsAll, List.mem_append]
  rcases List.mem_cons.1 hd with rfl | hd
  ·exact .inl hn
  ·exact .inr (weightsAll_mem hd n hn)
theorem Lite.slice {P : Program} {t e : TypeId} {elems sp : List (DataW H)} (h : Lite P t (.slice elems sp)) (ht : P.underlying t = some (.slice e)) :
  (elems.length + sp.length) * P.bytesOf e ≤ reachBytes ∧ ∀ d ∈ elems, Lite P e d := by
 refine ⟨h _ (by simp [DataW.weights, ht]), fun d hd n hn => h n ?_⟩
 have := weightsAll_mem (P := P) hd n hn
 simp only [DataW.weights, ht, List.mem_cons, List.mem_append]
 exact .inr (.inl this)
theorem Lite.struct {P : Program} {t : TypeId} {fs : Array Field} {parts : List (DataW H)} (h : Lite P t (.agg parts)) (ht : P.underlying t = some (.struct fs)) (j : Nat) (f : Field) (d : DataW H) (hf : fs[j]? = some f) (hd : parts[j]? = some d) : Lite P f.type d := by
 intro n hn
 refine h n ?_
 simp only [DataW.weights, ht]
 exact DataW.weights_mem_each (j := j) (t := f.type) (d := d) (by simp [hf]) hd n hn
theorem bytes_word : Tryz.prog.bytesOf 130 = 8 := by kernel_rfl
theorem bytes_int : Tryz.prog.bytesOf 3 = 8 := by kernel_rfl
theorem reach_small : reachBytes < 140737488355328 := by decide
theorem cells_word : Tryz.prog.cellsOf 130 = 1 := by kernel_rfl
theorem cells_int : Tryz.prog.cellsOf 3 = 1 := by kernel_rfl
theorem cells_mem : Tryz.prog.cellsOf 24 = 1 := by kernel_rfl
end
def SeqAt {Q : Type} (N : Nat) (V : Q → Array Value) (Ok : World → Q → Prop) (W : World) (f : Option Addr) (l : Nat) (q : Nat → Q) : Prop :=
 ∀ i, i < l → ∃ b o, f = some ⟨b, o, none⟩ ∧ RowAt W b (o + i * N) N (V (q i)) ∧ Ok W (q i)
theorem SeqAt.below {Q : Type} {N : Nat} {V : Q → Array Value} {Ok : World → Q → Prop} {W w : World} {f : Option Addr} {l : Nat} {q : Nat → Q} (h : SeqAt N V Ok W f l q) (hb : Below W.heap.size W w)
  (hOk : ∀ x, Ok W x → Ok w x) : SeqAt N V Ok w f l q := by
 intro i hi
 obtain ⟨b, o, hf, hr, ho⟩ := h i hi
 exact ⟨b, o, hf, hr.below hb, hOk _ ho⟩
section
variable {H : Type} {enc : TypeId × Value → H} {w : World} {base : Nat} {held : Bool}
theorem seq_of {t e : TypeId} {N B n : Nat} {c : Value} {y : DataW H × List MemPlace} {Q : Type} (V : Q → Array Value) (Ok : World → Q → Prop) (q0 : Q) (ht : Tryz.prog.underlying t = some (.slice e)) (hC : Tryz.prog.cellsOf e = N) (hN : 0 < N) (hB : Tryz.prog.bytesOf e = B) (hB0 : 1 ≤ B)
  (hcell : ∀ {n : Nat} {cs : List Value} {y : DataW H × List MemPlace}, cs.length = N → DataW.trod enc Tryz.prog w base (fun _ => true) held n e cs = some y → Lite Tryz.prog e y.1 → ∃ q, cs = (V q).toList ∧ Ok w q)
  (h : DataW.trod enc Tryz.prog w base (fun _ => true) held n t [c] = some y) (hz : Lite Tryz.prog t y.1) :
  ∃ (f : Option Addr) (l cap : Nat) (q : Nat → Q), c = .slice f l cap ∧ l ≤ cap ∧ l * B ≤ reachBytes ∧ SeqAt N V Ok w f l q := by
 subst hB
 rcases open_slice ht h with ⟨hcs, _⟩ | ⟨a, len, cap, m, n, D, Pl, hcs, _, hl, hm, hmm, hx, hi⟩
 ·exact ⟨none, 0, 0, fun _ => q0, by simpa using hcs, Nat.le_refl _, by simp, fun i hi => absurd hi (by omega)⟩
 ·simp at hcs
  subst hcs
  simp only [if_true] at hmm
  rw [hx] at hz
  obtain ⟨hzs, hze⟩ := Lite.slice hz ht
  simp only [List.length_map, List.length_range] at hzs
  have hzl : len * Tryz.prog.bytesOf e ≤ reachBytes := Nat.le_trans (Nat.mul_le_mul_right _ (by omega)) hzs
  clear hzs
  rw [hmm] at hi
  clear hmm
  by_cases hz : len = 0
  ·subst hz; exact ⟨_, 0, _, fun _ => q0, rfl, Nat.zero_le _, by simp, fun i hi => absurd hi (by omega)⟩
  ·have hel : ∀ i, i < len → ∃ q : Q, (∀ j, j < N → w.cell? ((a.add (i * N)).add j) = (V q)[j]?) ∧ Ok w q ∧ (V q).size = N := by
    intro i hil
    obtain ⟨cs, hc, htr⟩ := hi i (by omega)
    rw [hC] at hc
    obtain ⟨_, hlen, hat⟩ := World.cells?_some hc
    obtain ⟨q, hq, hb⟩ := hcell hlen htr (hze _ (List.mem_map.2 ⟨i, List.mem_range.2 hil, rfl⟩))
    exact ⟨q, fun j hj => by rw [hat j hj, hq, Array.getElem?_toList], hb, by rw [← hlen, hq, Array.length_toList]⟩
   obtain ⟨q1, hq1, _, hs1⟩ := hel 0 (by omega)
   have hc0 := hq1 0 hN
   have ha : (a.add (0 * N)).add 0 = a := by simp [Addr.add]
   rw [ha, Array.getElem?_eq_getElem (by omega)] at hc0
   have hsp := World.cell?_spot hc0
   obtain ⟨b, o, sp⟩ := a
   simp only at hsp
   subst hsp
   have hrow : ∀ i, i < len → ∃ q : Q, RowAt w b (o + i * N) N (V q) ∧ Ok w q := by
    intro i hil
    obtain ⟨q, hq, hb, _⟩ := hel i hil
    refine ⟨q, ⟨cell_block hc0, fun j hj => ?_⟩, hb⟩
    have := hq j hj
    rw [add_none, add_none] at this
    exact this
   have : Inhabited Q := ⟨q0⟩
   obtain ⟨g, hg⟩ := choose_lt hrow
   exact ⟨_, len, cap, g, rfl, hl, hzl, fun i hi => ⟨b, o, rfl, hg i hi⟩⟩
theorem part_lite {t : TypeId} {fs : Array Field} {n : Nat} {cs : List Value} {y : DataW H × List MemPlace} (he : Tryz.prog.underlying t = some (.struct fs)) (h : DataW.trod enc Tryz.prog w base (fun _ => true) held n t cs = some y) (hz : Lite Tryz.prog t y.1) (j off c : Nat) (ty : TypeId) (hf : ∃ f, fs[j]? = some f ∧ f.type = ty ∧ f.offset = off) (hc : Tryz.prog.cellsOf ty = c) :
  ∃ (z : DataW H × List MemPlace) (m : Nat), DataW.trod enc Tryz.prog w base (fun _ => true) held m ty ((cs.drop off).take c) = some z ∧ Lite Tryz.prog ty z.1 := by
 obtain ⟨f, hj, rfl, rfl⟩ := hf
 subst hc
 obtain ⟨xs, m, _, hx, _, hl, hf⟩ := DataW.trod_struct he h
 have hjl : j < fs.size := (Array.getElem?_eq_some_iff.1 hj).1
 have hyj : xs[j]? = some (xs[j]'(by omega)) := List.getElem?_eq_getElem (by omega)
 rw [hx] at hz
 exact ⟨_, m, (hf j f hj).trans hyj, Lite.struct hz he j f _ hj (by simp [hyj])⟩
theorem words_cap {n : Nat} {c : Value} {y : DataW H × List MemPlace} (h : DataW.trod enc Tryz.prog w base (fun _ => true) held n 22 [c] = some y) (hz : Lite Tryz.prog 22 y.1) :
  ∃ (f : Option Addr) (l cap : Nat) (X : Nat → BitVec 64), c = .slice f l cap ∧ l ≤ 1000000000000000 ∧ l ≤ cap ∧ WordsAt w f l X := by
 obtain ⟨f, l, cap, q, rfl, hc, hl, hq⟩ := seq_of (fun a : BitVec 64 => #[.int .u64 (u a)]) (fun _ _ => True) 0 Tryz.underlying22 cells_word (by decide) bytes_word (by decide) (fun hl ht _ => by
  obtain ⟨a, rfl⟩ := word_cells ht
  exact ⟨a, rfl, trivial⟩) h hz
 have := reach_small
 refine ⟨f, l, cap, q, rfl, by omega, hc, fun j hj => ?_⟩
 obtain ⟨b, o, hf, hr, _⟩ := hq j hj
 have := hr.get0 (.int .u64 (u (q j))) (by decide) rfl
 rw [Nat.mul_one] at this
 exact ⟨b, o, hf, this⟩
end
end
end Go.Proofs.YtmelepohdbojlaaGreat
