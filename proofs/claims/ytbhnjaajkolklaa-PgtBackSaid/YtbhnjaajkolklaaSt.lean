/- Slices of numbers: owned, appended to, compared, written over. Whole structs stored and loaded in one step: boxes of cells behind 'setRow'. -/
import Derived.Test.YtbhnjaajkolklaaOwn
import Derived.Laws.Rows
import Derived.Laws.CopyOwn
import Derived.Deep.MidRow
set_option linter.all false
namespace Go.Proofs.Ytbhnjaajkolklaa
section
open Go.ChangeShapes Go.WideShapes Go.ChangeAt Go.RowKit Go.Deep

theorem BoxAt.newAt (w : World) (cs : Array Value) (t : TypeId) (b : Nat) (hb : w.heap.size = b) : BoxAt (w.alloc (.cells cs t)) b cs t := by
  subst hb
  exact BoxAt.new w cs t
theorem BoxAt.under {B : Nat} {w w' : World} {b : Nat} {cs : Array Value} {t : TypeId} (h : BoxAt w b cs t) (hb : Below B w w') (hB : b < B) : BoxAt w' b cs t := ⟨(hb.block b hB).trans h.h⟩
/-- The cells of numbers. -/
def icells (L : List Int) : List Value := L.map fun a => .int .i64 a
theorem icells_length (L : List Int) : (icells L).length = L.length := by simp [icells]
theorem icells_append (L M : List Int) : icells (L ++ M) = icells L ++ icells M := by simp [icells]
theorem icells_one (L : List Int) : ∀ v ∈ icells L, v.oneCell' = true := by
  intro v hv
  simp only [icells, List.mem_map] at hv
  obtain ⟨t, _, rfl⟩ := hv
  rfl
theorem icells_get (L : List Int) (j : Nat) (h : j < L.length) : (icells L)[j]? = some (.int .i64 (L.getD j 0)) := by
  simp [icells, h]
/-- A slice of numbers, read as a list. -/
def IntsAt (w : World) (f : Option Addr) (L : List Int) : Prop := NumsAt w f L.length (fun j => L.getD j 0)
/-- A slice of numbers in a block of the call's own. -/
def OwnI (w : World) (base : Nat) (v : Value) (L : List Int) : Prop := w.ownsRow base 3 1 v L.length (icells L)
theorem OwnI.nil (w : World) (base : Nat) : OwnI w base (.slice none 0 0) [] := World.ownsRow_nil w base 3 1
theorem OwnI.below {w w' : World} {base : Nat} {v : Value} {L : List Int} (h : OwnI w base v L) (hb : Below w.heap.size w w') : OwnI w' base v L := by
  refine ⟨h.1, ?_⟩
  rcases h.2 with hn | ⟨g, cap, cur, rfl, hbg, hgg, rest⟩
  · exact .inl hn
  · exact .inr ⟨g, cap, cur, rfl, hbg, (hb.block g (Array.getElem?_eq_some_iff.1 hgg).1).trans hgg, rest⟩
theorem OwnI.mono {w : World} {base base' : Nat} {v : Value} {L : List Int} (h : OwnI w base v L) (hb : base' ≤ base) : OwnI w base' v L := by
  refine ⟨h.1, ?_⟩
  rcases h.2 with hn | ⟨g, cap, cur, rfl, hbg, rest⟩
  · exact .inl hn
  · exact .inr ⟨g, cap, cur, rfl, by omega, rest⟩
theorem OwnI.form {w : World} {base : Nat} {v : Value} {L : List Int} (h : OwnI w base v L) : ∃ f c, v = .slice f L.length c ∧ IntsAt w f L := by
  rcases h.2 with ⟨rfl, hz⟩ | ⟨g, cap, cur, rfl, hbg, hgg, _⟩
  · have hl : L.length = 0 := hz
    refine ⟨none, 0, by rw [hl], ?_⟩
    unfold IntsAt
    rw [hl]
    exact CellsAt.empty _ _ _
  · refine ⟨_, cap, rfl, fun j hj => ⟨g, 0, rfl, ?_⟩⟩
    have := World.ownsRow.cellAt h j (by omega)
    rw [icells_get L j hj] at this
    rw [Nat.zero_add]
    exact this
theorem OwnI.ints {w : World} {base : Nat} {f : Option Addr} {n c : Nat} {L : List Int} (h : OwnI w base (.slice f n c) L) : n = L.length ∧ IntsAt w f L := by
  obtain ⟨f', c', hv, hw⟩ := h.form
  simp at hv
  obtain ⟨rfl, rfl, rfl⟩ := hv
  exact ⟨rfl, hw⟩
theorem OwnI.other {w : World} {base : Nat} {v : Value} {L : List Int} (h : OwnI w base v L) (p : Addr) (y : Value) (hb : p.block < base) : OwnI (w.setCell p y) base v L := by
  refine ⟨h.1, ?_⟩
  rcases h.2 with hn | ⟨g, cap, cur, rfl, hbg, hgg, rest⟩
  · exact .inl hn
  · exact .inr ⟨g, cap, cur, rfl, hbg, (Below.heap_setCell w p y g (by omega)).trans hgg, rest⟩
theorem OwnI.drew {w : World} {base : Nat} {v : Value} {L : List Int} (h : OwnI w base v L) : OwnI w.drew base v L := h.below (Below.drew (Below.refl _ _))
theorem OwnI.drewN {w : World} {base : Nat} {v : Value} {L : List Int} (h : OwnI w base v L) (n : Nat) : OwnI (w.drewN n) base v L := h.below (below_drewN (Below.refl _ _) n)
theorem OwnI.alloc {w : World} {base : Nat} {v : Value} {L : List Int} (h : OwnI w base v L) (o : Obj) : OwnI (w.alloc o) base v L := h.below (bel_alloc (Below.refl _ _) o)
theorem OwnI.blk {w : World} {base : Nat} {v : Value} {L : List Int} (h : OwnI w base v L) : ∀ k, v.ownBlock = some k → base ≤ k := fun k hk => (World.ownsRow.lt h k hk).1
theorem OwnI.lt {w : World} {base g n c : Nat} {L : List Int} (h : OwnI w base (.slice (some ⟨g, 0, none⟩) n c) L) : base ≤ g ∧ g < w.heap.size := World.ownsRow.lt h g rfl
theorem OwnI.made (w : World) (base : Nat) (L : List Int) (cs : Array Value) (n : Nat) (hb : base ≤ w.heap.size) (hn : n = L.length) (hl : L.length ≤ 1000000) (hc : cs.toList = icells L) : OwnI (w.alloc (.cells cs 3)) base (.slice (some ⟨w.heap.size, 0, none⟩) n n) L := by
  subst hn
  have hsz : cs.size = L.length := by rw [← Array.length_toList, hc, icells_length]
  refine ⟨by rw [icells_length]; omega, .inr ⟨w.heap.size, L.length, cs, rfl, hb, ?_, by omega, by unfold maxLen; omega, by omega, ?_⟩⟩
  · exact heap_alloc_new w _
  · rw [hc, List.take_of_length_le (by rw [icells_length]; omega)]
theorem IntsAt.below {w w' : World} {f : Option Addr} {L : List Int} (h : IntsAt w f L) (hb : Below w.heap.size w w') : IntsAt w' f L := CellsAt.below h hb
theorem IntsAt.get {w : World} {f : Option Addr} {L : List Int} (h : IntsAt w f L) (j : Nat) (hj : j < L.length) : ∃ b o, f = some ⟨b, o, none⟩ ∧ w.cell? ⟨b, o + j, none⟩ = some (.int .i64 (L.getD j 0)) := h j hj

set_option maxRecDepth 100000 in
theorem eqI_any (f g : Option Addr) (n m c d : Nat) (L : List Int) (w : World) (hl : L.length ≤ 1000000) (hn : n = L.length) (hm : m = L.length) (h1 : IntsAt w f L) (h2 : IntsAt w g L) :
    Calls Try.prog 27 #[.slice f n c, .slice g m d] w fun e w' => e = .returned (.bool true) ∧ ∃ m, w' = w.drewN m := by
  subst hn hm
  have H1 := Lib.hid h1
  have H2 := Lib.hid h2
  clear h1 h2
  obtain ⟨l, hL⟩ : ∃ l, l = L.length := ⟨_, rfl⟩
  have HL := Lib.hid hL
  rw [← hL] at hl ⊢
  clear hL
  go_enter Try.func27, Try.ntmps27
  go_wp2
  go_loopw [5] (fun i wr => ∃ (k m : Nat), k ≤ l ∧ i = .int .i64 k ∧ wr = w.drewN m) (fun i _ => l - (intOf i).toNat)
  case atStart => exact ⟨0, 0, Nat.zero_le _, rfl, rfl⟩
  case round =>
    obtain ⟨k, m, hk, rfl, rfl⟩ := hrel
    by_cases hlt : k < l
    · obtain ⟨b, o, rfl, hc⟩ := H1.out.get k (by rw [← HL.out]; exact hlt)
      obtain ⟨b', o', rfl, hc'⟩ := H2.out.get k (by rw [← HL.out]; exact hlt)
      have i1 : (0 : Int) ≤ (k : Int) := by omega
      have i2 : (k : Int) < (l : Int) := by omega
      generalize L.getD k 0 = z at hc hc'
      go_wp2_with fail
      go_quiet (fail)
      go_wp2
      go_roundw
      case rel => exact ⟨k + 1, m + _, by omega, by go_num, rfl⟩
      case measure => simp [intOf]; omega
    · go_wp2
      go_ret
      exact ⟨rfl, _, rfl⟩
theorem icells_set (L : List Int) (j : Nat) (y : Int) : (icells L).set j (.int .i64 y) = icells (L.set j y) := by
  simp [icells, List.map_set]
theorem OwnI.stored {w : World} {base g n c : Nat} {L : List Int} (h : OwnI w base (.slice (some ⟨g, 0, none⟩) n c) L) (j : Nat) (y : Int) : OwnI (w.setCell ⟨g, j, none⟩ (.int .i64 y)) base (.slice (some ⟨g, 0, none⟩) n c) (L.set j y) := by
  obtain rfl := h.ints.1
  have := (World.ownsRow.stored h j (.int .i64 y)).1
  unfold OwnI
  rw [← icells_set, List.length_set]
  exact this
theorem OwnI.pos {w : World} {base : Nat} {f : Option Addr} {n c : Nat} {L : List Int} (h : OwnI w base (.slice f n c) L) (h0 : 0 < L.length) : ∃ g, f = some ⟨g, 0, none⟩ ∧ base ≤ g ∧ ∀ j, j < L.length → w.cell? ⟨g, j, none⟩ = some (.int .i64 (L.getD j 0)) ∧ w.frozen? ⟨g, j, none⟩ = false := by
  have h' := h
  rcases h.2 with ⟨hv, hz⟩ | ⟨g, cap, cur, hv, hbg, hgg, hnc, _⟩
  · omega
  · simp at hv
    obtain ⟨rfl, rfl, rfl⟩ := hv
    refine ⟨g, rfl, hbg, fun j hj => ⟨?_, World.ownsRow.frozenAt h' j⟩⟩
    have := World.ownsRow.cellAt h' j (by omega)
    rwa [icells_get L j hj] at this

end
section
open Go.ChangeShapes Go.WideShapes Go.ChangeAt Go.RowKit Go.Deep

theorem BoxAt.put {w : World} {b : Nat} {cs cs' : Array Value} {t : TypeId} (h : BoxAt w b cs t) : BoxAt (w.setRow b cs') b cs' t := ⟨setRow_heap w b cs cs' t (0, 0) h.h⟩
theorem BoxAt.row {w : World} {b g : Nat} {cs cs' : Array Value} {t : TypeId} (h : BoxAt w b cs t) (hne : b ≠ g) : BoxAt (w.setRow g cs') b cs t := ⟨(setRow_other w g b cs' hne).trans h.h⟩
theorem OwnI.row {w : World} {base g : Nat} {v : Value} {L : List Int} {cs : Array Value} (h : OwnI w base v L) (hb : g < base) : OwnI (w.setRow g cs) base v L := by
  refine ⟨h.1, ?_⟩
  rcases h.2 with hn | ⟨g', cap, cur, rfl, hbg, hgg, rest⟩
  · exact .inl hn
  · exact .inr ⟨g', cap, cur, rfl, hbg, (setRow_other w g g' cs (by omega)).trans hgg, rest⟩
theorem OwnI.under {B : Nat} {w w' : World} {base : Nat} {v : Value} {L : List Int} (h : OwnI w base v L) (hb : Below B w w') (hlt : ∀ k, v.ownBlock = some k → k < B) : OwnI w' base v L := by
  refine ⟨h.1, ?_⟩
  rcases h.2 with hn | ⟨g', cap, cur, rfl, hbg, hgg, rest⟩
  · exact .inl hn
  · exact .inr ⟨g', cap, cur, rfl, hbg, (hb.block g' (hlt g' rfl)).trans hgg, rest⟩
theorem OwnI.blt {w : World} {base : Nat} {v : Value} {L : List Int} (h : OwnI w base v L) : ∀ k, v.ownBlock = some k → k < w.heap.size := fun k hk => (World.ownsRow.lt h k hk).2
end
end Go.Proofs.Ytbhnjaajkolklaa
