/- A slice of fields appended to an empty one of the call's own: a copy. -/
import Derived.Test.YtgbkgapjmmadoaaPuts
import Derived.Test.YtgbkgapjmmadoaaRjoin
import Derived.Laws.AppendOwn
import Derived.Laws.AppendOwnNone
import Derived.Laws.OwnMore
import Derived.Deep.AppendLies
namespace Go.Proofs.Ytgbkgapjmmadoaa
open Go.ChangeShapes Go.WideShapes Go.ChangeAt Go.RowKit Go.Deep

section
variable {H : Type} {enc : TypeId × Value → H} {w : World} {base : Nat} {held : Bool}
/-- A slice that is nil has no element and no room. -/
theorem fields_nil {n : Nat} {f : Option Addr} {l cap : Nat} {y : DataW H × List MemPlace} (h : DataW.trod enc Try.prog w base (fun _ => true) held n 24 [.slice f l cap] = some y) : f = none → l = 0 ∧ cap = 0 := by
  intro hf
  subst hf
  rcases open_slice Try.underlying24 h with ⟨hcs, _⟩ | ⟨a, len, cap', m, n, D, Pl, hcs, _⟩
  · simp at hcs; exact hcs
  · simp at hcs

/-- The argument of a law of stage 1, with what a nil slice is. -/
theorem asks_cells2 {n : Nat} {c : Value} {y : DataW H × List MemPlace} (h : DataW.trod enc Try.prog w base (fun _ => true) held n 22 [c] = some y) :
    (∃ (a : Option Addr) (cap : Nat), c = .slice a 0 cap) ∨
    ∃ (b o len cap : Nat) (V : Nat → BitVec 64) (F : Nat → Option Addr) (L C : Nat → Nat) (A N : Nat → Int), c = .slice (some ⟨b, o, none⟩) len cap ∧
      ∀ i, i < len → AskAt w b (o + i * 4) (V i) (F i) (L i) (C i) (A i) (N i) ∧ FieldsAt w (F i) (L i) ∧ (F i = none → L i = 0 ∧ C i = 0) := by
  rcases slice_cells Try.underlying22 Try.underlying26 (by kernel_rfl) cells_ask (by decide) h with ⟨a, cap, hv, _⟩ | ⟨b, o, len, cap, hv, hl, hle, hm, hb, hi⟩
  · exact .inl ⟨a, cap, hv⟩
  · refine .inr ⟨b, o, len, cap, ?_⟩
    have : ∀ i, i < len → ∃ x : BitVec 64 × Option Addr × Nat × Nat × Int × Int, AskAt w b (o + i * 4) x.1 x.2.1 x.2.2.1 x.2.2.2.1 x.2.2.2.2.1 x.2.2.2.2.2 ∧ FieldsAt w x.2.1 x.2.2.1 ∧ (x.2.1 = none → x.2.2.1 = 0 ∧ x.2.2.2.1 = 0) := by
      intro i hlt
      obtain ⟨c0, _, _, h0, t0⟩ := hi i hlt 0 _ rfl
      obtain ⟨c1, _, _, h1, t1⟩ := hi i hlt 1 _ rfl
      obtain ⟨c2, _, _, h2, t2⟩ := hi i hlt 2 _ rfl
      obtain ⟨c3, _, _, h3, t3⟩ := hi i hlt 3 _ rfl
      obtain ⟨x, rfl⟩ := word_cell t0
      obtain ⟨f, l, cp, rfl, hf⟩ := fields_cells t1
      obtain ⟨a, rfl, a1, a0⟩ := int_cell t2
      obtain ⟨n, rfl, n1, n0⟩ := int_cell t3
      exact ⟨(x, f, l, cp, a, n), ⟨hb, h0, h1, h2, h3, n1, n0, a1, a0⟩, hf, fields_nil t1⟩
    obtain ⟨g, hg⟩ := choose_lt this
    exact ⟨fun i => (g i).1, fun i => (g i).2.1, fun i => (g i).2.2.1, fun i => (g i).2.2.2.1, fun i => (g i).2.2.2.2.1, fun i => (g i).2.2.2.2.2, hv, hg⟩
end

def cellF (x : Fld) : Nat → Value
  | 0 => .int .i64 x.a
  | 1 => .int .i64 x.n
  | _ => .int .u64 (u x.v)
def cellsF (X : Nat → Fld) (l : Nat) : List Value := (List.range (l * 3)).map fun t => cellF (X (t / 3)) (t % 3)
theorem cellsF_length (X : Nat → Fld) (l : Nat) : (cellsF X l).length = l * 3 := by simp [cellsF]
theorem cellsF_get (X : Nat → Fld) (l t : Nat) (h : t < l * 3) : (cellsF X l)[t]? = some (cellF (X (t / 3)) (t % 3)) := by
  simp [cellsF, h]
theorem cellsF_one (X : Nat → Fld) (l : Nat) : ∀ v ∈ cellsF X l, v.oneCell' = true := by
  intro v hv
  simp only [cellsF, List.mem_map] at hv
  obtain ⟨t, _, rfl⟩ := hv
  unfold cellF
  split <;> rfl
theorem FieldAt.cell {W : World} {b o : Nat} {x : Fld} (h : FieldAt W b o x.a x.n x.v) (t : Nat) (ht : t < 3) : W.cell? ⟨b, o + t, none⟩ = some (cellF x t) := by
  match t, ht with
  | 0, _ => exact h.c0
  | 1, _ => exact h.c1
  | 2, _ => exact h.c2

theorem infoF : (Try.prog.info? 39).map (fun i => (i.zero, i.size, i.bytes)) = some (some (.agg #[.int .i64 0, .int .i64 0, .int .u64 0]), 3, 24) := by kernel_rfl

/-- What a copy is. -/
structure CopyF (base : Nat) (w0 : World) (v : Value) (l : Nat) (X : Nat → Fld) (w1 : World) : Prop where
  below : Below base w0 w1
  size : w0.heap.size ≤ w1.heap.size
  form : ∃ g cap, v = .slice (some ⟨g, 0, none⟩) l cap ∧ base ≤ g ∧ FldsAt w1 (some ⟨g, 0, none⟩) l X

theorem copyF_of {base : Nat} {w w1 : World} {v v' : Value} {l : Nat} {X : Nat → Fld} (hbase : base ≤ w.heap.size) (hb : ∀ k, v.ownBlock = some k → base ≤ k) (hn : v ≠ .slice none 0 0)
    (hx : ∀ j, j < l → (X j).n ≤ 9223372036854775807 ∧ -9223372036854775808 ≤ (X j).n ∧ (X j).a ≤ 9223372036854775807 ∧ -9223372036854775808 ≤ (X j).a)
    (hown : w1.ownsRow base 39 3 v' l (cellsF X l)) (hg : w.grownBy w1 v.ownBlock) (hnil : v' = .slice none 0 0 → v = .slice none 0 0) : CopyF base w v' l X w1 := by
  refine ⟨(Below.refl base w).grown hg hbase hb, hg.size, ?_⟩
  rcases hown.2 with ⟨h0, _⟩ | ⟨g, cap, cur, rfl, hbg, hheap, _⟩
  · exact absurd (hnil h0) hn
  · refine ⟨g, cap, rfl, hbg, fun j hj => ⟨g, 0, rfl, ?_⟩⟩
    have hlt : g < w1.heap.size := (Array.getElem?_eq_some_iff.1 hheap).1
    have hc : ∀ t, t < 3 → w1.cell? ⟨g, 0 + j * 3 + t, none⟩ = some (cellF (X j) t) := by
      intro t ht
      rw [show 0 + j * 3 + t = j * 3 + t from by omega, hown.cellAt (j * 3 + t) (by omega), cellsF_get X l _ (by omega), show (j * 3 + t) / 3 = j from by omega, show (j * 3 + t) % 3 = t from by omega]
    obtain ⟨x1, x2, x3, x4⟩ := hx j hj
    exact ⟨hlt, hc 0 (by omega), hc 1 (by omega), hc 2 (by omega), x1, x2, x3, x4⟩

/-- 'append(in, F...)' onto an empty slice of the call's own. -/
theorem wpList_copyF {w : World} {ops : Array Oper} {rest : List Oper} {o : Oper} {a : Act} {Q : Exit → Act → World → Prop} (hgd : o.guard = none) (s x : Operand)
    (ho : o.op = .call { callee := .builtin .append, args := #[s, x], argTypes := #[24, 24] })
    (base g0 c0 : Nat) (hs : a.eval s = .slice (some ⟨g0, 0, none⟩) 0 c0) (hown : w.ownsRow base 39 3 (.slice (some ⟨g0, 0, none⟩) 0 c0) 0 [])
    (f : Option Addr) (l c : Nat) (hx : a.eval x = .slice f l c) (hnil : f = none → l = 0 ∧ c = 0) (X : Nat → Fld) (hX : FldsAt w f l X) (hl : l ≤ 1000) (hbase : base ≤ w.heap.size)
    (h : ∀ v' w', CopyF base w v' l X w' → wpList Try.prog ops Q rest (a.put o.dst v') w') : wpList Try.prog ops Q (o :: rest) a w := by
  have hlo := hown.lt
  have hlo' : ∀ k, (Value.slice (some ⟨g0, 0, none⟩) 0 c0).ownBlock = some k → base ≤ k := fun k hk => (hlo k hk).1
  obtain ⟨i0, hi, hz0, hz1, hz2⟩ := info_parts infoF
  have hbd : ∀ j, j < l → (X j).n ≤ 9223372036854775807 ∧ -9223372036854775808 ≤ (X j).n ∧ (X j).a ≤ 9223372036854775807 ∧ -9223372036854775808 ≤ (X j).a := by
    intro j hj
    obtain ⟨_, _, _, hf⟩ := hX j hj
    exact ⟨hf.n1, hf.n0, hf.a1, hf.a0⟩
  cases f with
  | none =>
    obtain ⟨rfl, rfl⟩ := hnil rfl
    refine wpList_append_own_none hgd s x 24 ho base 39 i0 3 Try.underlying24 hi _ 0 [] hs hown hx (h _ _ ?_)
    exact copyF_of (v := .slice (some ⟨g0, 0, none⟩) 0 c0) hbase hlo' (by simp) hbd hown ⟨rfl, rfl, rfl, Nat.le_refl _, fun _ _ _ => rfl⟩ id
  | some ad =>
    refine wpList_append_own _ hgd s x 24 ho base 39 i0 _ 3 24 Try.underlying24 hi hz0 hz1 hz2 rfl (by decide) _ 0 [] hs hown ad l c (cellsF X l) hx (cellsF_length X l) ?_ (cellsF_one X l)
      (by unfold maxLen; omega) (by omega) hbase ?_
    · intro t v hv
      have ht : t < l * 3 := by
        have := (List.getElem?_eq_some_iff.1 hv).1
        rwa [cellsF_length] at this
      rw [cellsF_get X l t ht] at hv
      obtain rfl := Option.some.inj hv
      obtain ⟨b, o, hf, hfa⟩ := hX (t / 3) (by omega)
      obtain rfl := Option.some.inj hf
      rw [add_none, show o + t = o + t / 3 * 3 + t % 3 from by omega]
      exact hfa.cell (t % 3) (by omega)
    · intro v' w' hown' hgrow hiff
      simp only [Nat.zero_add, List.nil_append] at hown'
      exact h _ _ (copyF_of (v := .slice (some ⟨g0, 0, none⟩) 0 c0) hbase hlo' (by simp) hbd hown' hgrow (fun e => (hiff.1 e).1))
end Go.Proofs.Ytgbkgapjmmadoaa
