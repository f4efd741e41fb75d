/- Slices of numbers: owned, appended to, compared, written over. -/
import Derived.Test.YtlflfpohglgopaaOwn
set_option linter.all false
namespace Go.Proofs.Ytlflfpohglgopaa
open Go.ChangeShapes Go.WideShapes Go.ChangeAt Go.RowKit Go.Deep

theorem BoxAt.newAt (w : World) (cs : Array Value) (t : TypeId) (b : Nat) (hb : w.heap.size = b) : BoxAt (w.alloc (.cells cs t)) b cs t := by
  subst hb
  exact BoxAt.new w cs t
theorem BoxAt.under {B : Nat} {w w' : World} {b : Nat} {cs : Array Value} {t : TypeId} (h : BoxAt w b cs t) (hb : Below B w w') (hB : b < B) : BoxAt w' b cs t := ⟨(hb.block b hB).trans h.h⟩
/-- The cells of numbers. -/
def icells (L : List Int) : List Value := L.map fun a => .int .i64 a
theorem icells_length (L : List Int) : (icells L).length = L.length := by simp [icells]
theorem icells_append (L M : List Int) : icells (L ++ M) = icells L ++ icells M := by simp [icells]
theorem icells_one (L : List Int) : ∀ v ∈ icells L, v.oneCell' = true := by
  intro v hv
  simp only [icells, List.mem_map] at hv
  obtain ⟨t, _, rfl⟩ := hv
  rfl
theorem icells_get (L : List Int) (j : Nat) (h : j < L.length) : (icells L)[j]? = some (.int .i64 (L.getD j 0)) := by
  simp [icells, h]
/-- A slice of numbers, read as a list. -/
def IntsAt (w : World) (f : Option Addr) (L : List Int) : Prop := NumsAt w f L.length (fun j => L.getD j 0)
/-- A slice of numbers in a block of the call's own. -/
def OwnI (w : World) (base : Nat) (v : Value) (L : List Int) : Prop := w.ownsRow base 3 1 v L.length (icells L)
theorem OwnI.nil (w : World) (base : Nat) : OwnI w base (.slice none 0 0) [] := World.ownsRow_nil w base 3 1
theorem OwnI.below {w w' : World} {base : Nat} {v : Value} {L : List Int} (h : OwnI w base v L) (hb : Below w.heap.size w w') : OwnI w' base v L := by
  refine ⟨h.1, ?_⟩
  rcases h.2 with hn | ⟨g, cap, cur, rfl, hbg, hgg, rest⟩
  · exact .inl hn
  · exact .inr ⟨g, cap, cur, rfl, hbg, (hb.block g (Array.getElem?_eq_some_iff.1 hgg).1).trans hgg, rest⟩
theorem OwnI.mono {w : World} {base base' : Nat} {v : Value} {L : List Int} (h : OwnI w base v L) (hb : base' ≤ base) : OwnI w base' v L := by
  refine ⟨h.1, ?_⟩
  rcases h.2 with hn | ⟨g, cap, cur, rfl, hbg, rest⟩
  · exact .inl hn
  · exact .inr ⟨g, cap, cur, rfl, by omega, rest⟩
theorem OwnI.form {w : World} {base : Nat} {v : Value} {L : List Int} (h : OwnI w base v L) : ∃ f c, v = .slice f L.length c ∧ IntsAt w f L := by
  rcases h.2 with ⟨rfl, hz⟩ | ⟨g, cap, cur, rfl, hbg, hgg, _⟩
  · have hl : L.length = 0 := hz
    refine ⟨none, 0, by rw [hl], ?_⟩
    unfold IntsAt
    rw [hl]
    exact CellsAt.empty _ _ _
  · refine ⟨_, cap, rfl, fun j hj => ⟨g, 0, rfl, ?_⟩⟩
    have := World.ownsRow.cellAt h j (by omega)
    rw [icells_get L j hj] at this
    rw [Nat.zero_add]
    exact this
theorem OwnI.ints {w : World} {base : Nat} {f : Option Addr} {n c : Nat} {L : List Int} (h : OwnI w base (.slice f n c) L) : n = L.length ∧ IntsAt w f L := by
  obtain ⟨f', c', hv, hw⟩ := h.form
  simp at hv
  obtain ⟨rfl, rfl, rfl⟩ := hv
  exact ⟨rfl, hw⟩
theorem OwnI.other {w : World} {base : Nat} {v : Value} {L : List Int} (h : OwnI w base v L) (p : Addr) (y : Value) (hb : p.block < base) : OwnI (w.setCell p y) base v L := by
  refine ⟨h.1, ?_⟩
  rcases h.2 with hn | ⟨g, cap, cur, rfl, hbg, hgg, rest⟩
  · exact .inl hn
  · exact .inr ⟨g, cap, cur, rfl, hbg, (Below.heap_setCell w p y g (by omega)).trans hgg, rest⟩
theorem OwnI.drew {w : World} {base : Nat} {v : Value} {L : List Int} (h : OwnI w base v L) : OwnI w.drew base v L := h.below (Below.drew (Below.refl _ _))
theorem OwnI.drewN {w : World} {base : Nat} {v : Value} {L : List Int} (h : OwnI w base v L) (n : Nat) : OwnI (w.drewN n) base v L := h.below (below_drewN (Below.refl _ _) n)
theorem OwnI.alloc {w : World} {base : Nat} {v : Value} {L : List Int} (h : OwnI w base v L) (o : Obj) : OwnI (w.alloc o) base v L := h.below (bel_alloc (Below.refl _ _) o)
theorem OwnI.blk {w : World} {base : Nat} {v : Value} {L : List Int} (h : OwnI w base v L) : ∀ k, v.ownBlock = some k → base ≤ k := fun k hk => (World.ownsRow.lt h k hk).1
theorem OwnI.lt {w : World} {base g n c : Nat} {L : List Int} (h : OwnI w base (.slice (some ⟨g, 0, none⟩) n c) L) : base ≤ g ∧ g < w.heap.size := World.ownsRow.lt h g rfl
theorem OwnI.made (w : World) (base : Nat) (L : List Int) (cs : Array Value) (n : Nat) (hb : base ≤ w.heap.size) (hn : n = L.length) (hl : L.length ≤ 1000000) (hc : cs.toList = icells L) : OwnI (w.alloc (.cells cs 3)) base (.slice (some ⟨w.heap.size, 0, none⟩) n n) L := by
  subst hn
  have hsz : cs.size = L.length := by rw [← Array.length_toList, hc, icells_length]
  refine ⟨by rw [icells_length]; omega, .inr ⟨w.heap.size, L.length, cs, rfl, hb, ?_, by omega, by unfold maxLen; omega, by omega, ?_⟩⟩
  · exact heap_alloc_new w _
  · rw [hc, List.take_of_length_le (by rw [icells_length]; omega)]
theorem IntsAt.below {w w' : World} {f : Option Addr} {L : List Int} (h : IntsAt w f L) (hb : Below w.heap.size w w') : IntsAt w' f L := CellsAt.below h hb
theorem IntsAt.get {w : World} {f : Option Addr} {L : List Int} (h : IntsAt w f L) (j : Nat) (hj : j < L.length) : ∃ b o, f = some ⟨b, o, none⟩ ∧ w.cell? ⟨b, o + j, none⟩ = some (.int .i64 (L.getD j 0)) := h j hj

theorem infoI : (Try.prog.info? 3).map (fun i => (i.zero, i.size, i.bytes)) = some (some (.int .i64 0), 1, 8) := by kernel_rfl

/-- 'append(s, x)' of one number onto a slice of the call's own. -/
theorem wpList_pushI {w : World} {ops : Array Oper} {rest : List Oper} {o : Oper} {a : Act} {Q : Exit → Act → World → Prop} (hgd : o.guard = none) (s x : Operand)
    (ho : o.op = .call { callee := .builtin .append, args := #[s, x], argTypes := #[29, 29] })
    (base : Nat) (v : Value) (L : List Int) (hs : a.eval s = v) (hown : OwnI w base v L)
    (b c : Nat) (y : Int) (hx : a.eval x = .slice (some ⟨b, 0, none⟩) 1 c) (hy : w.cell? ⟨b, 0, none⟩ = some (.int .i64 y)) (hk : L.length ≤ 100000) (hbase : base ≤ w.heap.size)
    (h : ∀ f' c' w', OwnI w' base (.slice f' (L.length + 1) c') (L ++ [y]) → Below base w w' → wpList Try.prog ops Q rest (a.put o.dst (.slice f' (L.length + 1) c')) w') : wpList Try.prog ops Q (o :: rest) a w := by
  obtain ⟨i0, hi, hz0, hz1, hz2⟩ := info_parts infoI
  refine wpList_append_own _ hgd s x 29 ho base 3 i0 _ 1 8 Try.underlying29 hi hz0 hz1 hz2 rfl (by decide) _ L.length (icells L) hs hown _ 1 c [.int .i64 y] hx rfl ?_ (by simp; rfl)
    (by unfold maxLen; omega) (by omega) hbase ?_
  · intro t v hv
    match t, hv with
    | 0, hv => simp at hv; subst hv; exact hy
    | t + 1, hv => simp at hv
  · intro v' w' hown' hgrow _
    have hO : OwnI w' base v' (L ++ [y]) := by
      unfold OwnI
      rw [icells_append, List.length_append]
      exact hown'
    have hB : Below base w w' := (Below.refl base w).grown hgrow hbase hown.blk
    obtain ⟨f', c', rfl, _⟩ := hO.form
    have e1 : (L ++ [y]).length = L.length + 1 := by simp
    rw [e1] at hO ⊢
    exact h f' c' w' hO hB

theorem icells_set (L : List Int) (j : Nat) (y : Int) : (icells L).set j (.int .i64 y) = icells (L.set j y) := by
  simp [icells, List.map_set]
theorem OwnI.stored {w : World} {base g n c : Nat} {L : List Int} (h : OwnI w base (.slice (some ⟨g, 0, none⟩) n c) L) (j : Nat) (y : Int) : OwnI (w.setCell ⟨g, j, none⟩ (.int .i64 y)) base (.slice (some ⟨g, 0, none⟩) n c) (L.set j y) := by
  obtain rfl := h.ints.1
  have := (World.ownsRow.stored h j (.int .i64 y)).1
  unfold OwnI
  rw [← icells_set, List.length_set]
  exact this
theorem OwnI.pos {w : World} {base : Nat} {f : Option Addr} {n c : Nat} {L : List Int} (h : OwnI w base (.slice f n c) L) (h0 : 0 < L.length) : ∃ g, f = some ⟨g, 0, none⟩ ∧ base ≤ g ∧ ∀ j, j < L.length → w.cell? ⟨g, j, none⟩ = some (.int .i64 (L.getD j 0)) ∧ w.frozen? ⟨g, j, none⟩ = false := by
  have h' := h
  rcases h.2 with ⟨hv, hz⟩ | ⟨g, cap, cur, hv, hbg, hgg, hnc, _⟩
  · omega
  · simp at hv
    obtain ⟨rfl, rfl, rfl⟩ := hv
    refine ⟨g, rfl, hbg, fun j hj => ⟨?_, World.ownsRow.frozenAt h' j⟩⟩
    have := World.ownsRow.cellAt h' j (by omega)
    rwa [icells_get L j hj] at this

end Go.Proofs.Ytlflfpohglgopaa
