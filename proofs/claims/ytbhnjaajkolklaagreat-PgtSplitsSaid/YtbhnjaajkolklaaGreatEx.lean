/- A function's text, carried out by the kernel on blocks that are known, for all numbers that new blocks may have: an operation. -/
import Derived.Test.YtbhnjaajkolklaaGreatMemA
import Derived.Orders
import Derived.Laws.Sem
set_option linter.all false
namespace Go.Proofs.YtbhnjaajkolklaaGreat
open Go.ChangeShapes Go.WideShapes Go.ChangeAt Go.RowKit Go.Deep

/-- A predicate hangs on one block at most. -/
def Local (q : Option Nat) (p : World → Prop) : Prop := ∀ w w' : World, p w → (∀ b, q = some b → w'.heap[b]? = w.heap[b]?) → w.heap.size ≤ w'.heap.size → p w'
inductive Kd where
  | no
  | row
  | own
  | fact (q : Option Nat) (p : World → Prop)
  | facts (q : List Nat) (p : World → Prop)
def LocalL (q : List Nat) (p : World → Prop) : Prop := ∀ w w' : World, p w → (∀ b, b ∈ q → w'.heap[b]? = w.heap[b]?) → w.heap.size ≤ w'.heap.size → p w'
def noS : Nat → Prop := fun b => (none : Option Nat) = some b
def oneS (b : Nat) : Nat → Prop := fun c => some b = some c
/-- What is known of memory: one's own block, whole; somebody's row, from a place on, to be read; a predicate of one block. -/
structure Bx where
  b : Nat
  o : Nat
  t : TypeId
  cs : List Value
  k : Kd
def noBx : Bx := ⟨0, 0, 0, [], .no⟩
def Bx.fp (x : Bx) : Nat → Prop := match x.k with
  | .own => fun b => some x.b = some b
  | .fact q _ => fun b => q = some b
  | .facts q _ => fun b => b ∈ q
  | _ => noS
def Bx.rd (x : Bx) : Nat → Prop := match x.k with
  | .own => fun b => some x.b = some b
  | .row => fun b => some x.b = some b
  | .fact q _ => fun b => q = some b
  | .facts q _ => fun b => b ∈ q
  | .no => noS
/-- A fact that is handed out: of one block, whose number tells it, or of many. -/
inductive FV where
  | one (p : World → Prop)
  | many (q : List Nat) (p : World → Prop)
instance : Coe (World → Prop) FV := ⟨FV.one⟩
def FV.h : FV → World → Prop
  | .one p => p
  | .many _ p => p
def FV.s (f : Option Addr) : FV → Nat → Prop
  | .one _ => fun b => f.map (·.block) = some b
  | .many q _ => fun b => b ∈ q
def FV.loc (f : Option Addr) : FV → Prop
  | .one p => Local (f.map (·.block)) p
  | .many q p => LocalL q p
def FV.bx (f : Option Addr) : FV → Bx
  | .one p => ⟨0, 0, 0, [], .fact (f.map (·.block)) p⟩
  | .many q p => ⟨0, 0, 0, [], .facts q p⟩
theorem FV.bx_rd (f : Option Addr) (x : FV) : (x.bx f).rd = x.s f := by cases x <;> rfl
theorem FV.bx_fp (f : Option Addr) (x : FV) : (x.bx f).fp = x.s f := by cases x <;> rfl
/-- The numbers of new blocks; what calls hand out (capacity, address). -/
abbrev Sup := Nat → Nat × Option Addr
structure Env where
  e : Sup
def Env.b (E : Env) (i : Nat) : Nat := (E.e i).1
def Env.f (E : Env) (i : Nat) : Option Addr := (E.e i).2
def Env.set (E : Env) (n : Nat) (q : Nat × Option Addr) : Env := ⟨fun i => match Nat.beq i n with
  | true => q
  | false => E.e i⟩
/-- As far as it is known: below n, and these. -/
def selE (ids : List Nat) (n : Nat) (E : Sup) : Env := ⟨fun i => match Nat.blt i n || ids.any (Nat.beq i) with
  | true => E i
  | false => (0, none)⟩
theorem selE_eq {ids : List Nat} {n : Nat} {E E' : Sup} (h : ∀ i, i < n ∨ i ∈ ids → E i = E' i) : selE ids n E = selE ids n E' := by
  unfold selE
  congr 1
  funext i
  split
  · rename_i hb
    rw [Bool.or_eq_true] at hb
    refine h i (hb.imp (fun h => by simpa [Nat.blt_eq] using h) fun h => ?_)
    obtain ⟨j, hj, hij⟩ := List.any_eq_true.1 h
    rw [Nat.eq_of_beq_eq_true hij]
    exact hj
  · rfl
inductive CV where
  | v (x : Value)
  | p (q : World → Prop)
  | c (x : Code)
  | o (x : Op)
  | l (x : List Nat)
abbrev Cl (ρ : Type) := Option (List (CV × CV) × ρ)
def clc {ρ : Type} (x y : CV) : Cl ρ → Cl ρ
  | some (l, r) => some ((x, y) :: l, r)
  | none => none
def cl {ρ : Type} (x y : Value) (r : Cl ρ) : Cl ρ := clc (.v x) (.v y) r
def AllEq : List (CV × CV) → Prop
  | [] => True
  | p :: l => p.1 = p.2 ∧ AllEq l
def Goods {ρ : Type} (r : Cl ρ) (a : ρ) : Prop := ∃ L, r = some (L, a) ∧ AllEq L
theorem AllEq.app {l l' : List (CV × CV)} : AllEq (l ++ l') → AllEq l ∧ AllEq l' := by
  induction l with
  | nil => exact fun h => ⟨trivial, h⟩
  | cons p l ih => exact fun h => ⟨⟨h.1, (ih h.2).1⟩, (ih h.2).2⟩
theorem Goods.clc {ρ : Type} {x y : CV} {r : Cl ρ} {d : ρ} (h : Goods (clc x y r) d) : x = y ∧ Goods r d := by
  obtain ⟨L, hL, hA⟩ := h
  cases r with
  | none => cases hL
  | some l =>
    obtain ⟨l, b⟩ := l
    simp only [Go.Proofs.YtbhnjaajkolklaaGreat.clc, Option.some.injEq, Prod.mk.injEq] at hL
    obtain ⟨rfl, rfl⟩ := hL
    exact ⟨hA.1, l, rfl, hA.2⟩
theorem Goods.cl {ρ : Type} {x y : Value} {r : Cl ρ} {d : ρ} (h : Goods (cl x y r) d) : x = y ∧ Goods r d := by
  obtain ⟨h1, h2⟩ := Goods.clc h
  injection h1 with h1
  exact ⟨h1, h2⟩
theorem Goods.no {ρ : Type} {d : ρ} (h : Goods (none : Cl ρ) d) : False := by
  obtain ⟨L, hL, _⟩ := h
  cases hL
theorem Goods.ret {ρ : Type} {d d' : ρ} (h : Goods (some ([], d)) d') : d = d' := by
  obtain ⟨L, hL, _⟩ := h
  simp only [Option.some.injEq, Prod.mk.injEq] at hL
  exact hL.2
def oneCell : Value → Bool
  | .agg _ => false
  | .tuple _ => false
  | _ => true
/-- Where the next access goes: block, cell, what is left. -/
def next : List (Nat × Nat × Nat) → Option (Nat × Nat × List (Nat × Nat × Nat))
  | (i, c, 1) :: l => some (i, c, l)
  | (i, c, n + 1) :: l => some (i, c, (i, c + 1, n) :: l)
  | _ => none
def putNew : List Bx → Nat → Bx → Option (List Bx)
  | [], 0, x => some [x]
  | [], n + 1, x => match putNew [] n x with
    | some l => some (noBx :: l)
    | none => none
  | y :: l, 0, x => match y.k with
    | .no => some (x :: l)
    | _ => none
  | y :: l, n + 1, x => match putNew l n x with
    | some l' => some (y :: l')
    | none => none
theorem putNew_get : ∀ {h : List Bx} {n : Nat} {x : Bx} {h' : List Bx}, putNew h n x = some h' → ∀ {i : Nat} {z : Bx}, h'[i]? = some z → (i = n ∧ z = x) ∨ (i ≠ n ∧ (h[i]? = some z ∨ z = noBx))
  | [], 0, x, h', hp, i, z, hz => by
    obtain rfl : [x] = h' := by simpa [putNew] using hp
    cases i with
    | zero => exact Or.inl ⟨rfl, by simpa using hz.symm⟩
    | succ i => simp at hz
  | [], n + 1, x, h', hp, i, z, hz => by
    simp only [putNew] at hp
    split at hp
    · rename_i l hl
      obtain rfl := Option.some.inj hp
      cases i with
      | zero => exact Or.inr ⟨by omega, Or.inr (by simpa using hz.symm)⟩
      | succ i =>
        rcases putNew_get hl (by simpa using hz) with ⟨rfl, rfl⟩ | ⟨h1, h2⟩
        · exact Or.inl ⟨rfl, rfl⟩
        · exact Or.inr ⟨by omega, h2.imp (fun h => by simp at h) id⟩
    · cases hp
  | y :: l, 0, x, h', hp, i, z, hz => by
    simp only [putNew] at hp
    split at hp
    · obtain rfl := Option.some.inj hp
      cases i with
      | zero => exact Or.inl ⟨rfl, by simpa using hz.symm⟩
      | succ i => exact Or.inr ⟨by omega, Or.inl (by simpa using hz)⟩
    · cases hp
  | y :: l, n + 1, x, h', hp, i, z, hz => by
    simp only [putNew] at hp
    split at hp
    · rename_i l' hl
      obtain rfl := Option.some.inj hp
      cases i with
      | zero => exact Or.inr ⟨by omega, Or.inl (by simpa using hz)⟩
      | succ i =>
        rcases putNew_get hl (by simpa using hz) with ⟨rfl, rfl⟩ | ⟨h1, h2⟩
        · exact Or.inl ⟨rfl, rfl⟩
        · exact Or.inr ⟨by omega, h2.imp (fun h => by simpa using h) id⟩
    · cases hp
structure St where
  h : List Bx
  at_ : List (Nat × Nat × Nat)
/-- nx: the number of the block that may be made. -/
def srun {ρ : Type} (P : Program) (E : Sup) (nx : Nat) {α : Type} : Sem α → Bool → St → (α → List Bx → Cl ρ) → Cl ρ
  | .pure a, _, st, K => K a st.h
  | .load _ a k, nw, st, K =>
    match next st.at_ with
    | some (i, c, l) => match st.h[i]? with
      | some x => match x.cs[c]? with
        | some v => cl (.pointer (some a)) (.pointer (some ⟨x.b, x.o + c, none⟩)) (srun P E nx (k v) nw ⟨st.h, l⟩ K)
        | none => none
      | none => none
    | none => none
  | .store _ a v k, nw, st, K =>
    match next st.at_ with
    | some (i, c, l) => match st.h[i]? with
      | some x => match x.k with
        | .own => match oneCell v && Nat.blt c x.cs.length with
          | true => cl (.pointer (some a)) (.pointer (some ⟨x.b, c, none⟩)) (srun P E nx k nw ⟨st.h.set i ⟨x.b, x.o, x.t, x.cs.set c v, .own⟩, l⟩ K)
          | false => none
        | _ => none
      | none => none
    | none => none
  | .new (.cells c t (0, 0)) k, true, st, K => match putNew st.h nx ⟨(E nx).1, 0, t, c.toList, .own⟩ with
    | some h' => srun P E nx (k (E nx).1) false ⟨h', st.at_⟩ K
    | none => none
  | .program k, nw, st, K => srun P E nx (k P) nw st K
  | .mark _ k, nw, st, K => srun P E nx k nw st K
  | _, _, _, _ => none
/-- Outside these blocks all is as it was. -/
structure Keep (ft : List Nat) (w0 w : World) : Prop where
  os : w.os = w0.os
  tape : w.tape = w0.tape
  output : w.output = w0.output
  size : w0.heap.size ≤ w.heap.size
  block : ∀ k, k < w0.heap.size → k ∉ ft → w.heap[k]? = w0.heap[k]?
theorem Keep.refl (ft : List Nat) (w : World) : Keep ft w w := ⟨rfl, rfl, rfl, Nat.le_refl _, fun _ _ _ => rfl⟩
theorem Keep.trans {ft : List Nat} {a b c : World} (h : Keep ft a b) (k : Keep ft b c) : Keep ft a c :=
  ⟨k.os.trans h.os, k.tape.trans h.tape, k.output.trans h.output, Nat.le_trans h.size k.size, fun i hi hn => (k.block i (Nat.lt_of_lt_of_le hi h.size) hn).trans (h.block i hi hn)⟩
theorem Keep.below {w0 w : World} (h : Keep [] w0 w) : Below w0.heap.size w0 w := ⟨h.os, h.tape, h.output, h.size, fun k hk => h.block k hk (by simp)⟩
theorem Keep.of {ft : List Nat} {w0 w : World} (h : Below w0.heap.size w0 w) : Keep ft w0 w := ⟨h.os, h.tape, h.output, h.size, fun k hk _ => h.block k hk⟩
theorem Keep.drew {ft : List Nat} {w0 w : World} (h : Keep ft w0 w) : Keep ft w0 { w with drawn := w.drawn + 1 } := ⟨h.os, h.tape, h.output, h.size, h.block⟩
def Bx.Holds (ft : List Nat) (w0 w : World) (x : Bx) : Prop := match x.k with
  | .no => x.cs = []
  | .row => x.b < w.heap.size ∧ ∀ (j : Nat) (v : Value), x.cs[j]? = some v → w.cell? ⟨x.b, x.o + j, none⟩ = some v
  | .own => x.o = 0 ∧ (x.b ∈ ft ∨ w0.heap.size ≤ x.b) ∧ w.heap[x.b]? = some (.cells x.cs.toArray x.t)
  | .fact q p => x.cs = [] ∧ (∀ b, q = some b → (b ∈ ft ∨ w0.heap.size ≤ b) ∧ b < w.heap.size) ∧ p w ∧ Local q p
  | .facts q p => x.cs = [] ∧ (∀ b, b ∈ q → (b ∈ ft ∨ w0.heap.size ≤ b) ∧ b < w.heap.size) ∧ p w ∧ LocalL q p
theorem FV.holds {ft : List Nat} {w0 w : World} {f : Option Addr} {x : FV} (hb : ∀ b, x.s f b → (b ∈ ft ∨ w0.heap.size ≤ b) ∧ b < w.heap.size) (h : x.h w) (hl : x.loc f) : (x.bx f).Holds ft w0 w := by
  cases x with
  | one p => exact ⟨rfl, hb, h, hl⟩
  | many q p => exact ⟨rfl, hb, h, hl⟩
theorem FV.told {ft : List Nat} {w0 w : World} {f : Option Addr} {x : FV} (h : (x.bx f).Holds ft w0 w) : (∀ b, x.s f b → (b ∈ ft ∨ w0.heap.size ≤ b) ∧ b < w.heap.size) ∧ x.h w ∧ x.loc f := by
  cases x with
  | one p => exact h.2
  | many q p => exact h.2
theorem Bx.Holds.to {ft : List Nat} {w0 w w' : World} {x : Bx} (h : x.Holds ft w0 w) (hb : ∀ b, x.rd b → w'.heap[b]? = w.heap[b]?) (hs : w.heap.size ≤ w'.heap.size) : x.Holds ft w0 w' := by
  obtain ⟨b, o, t, cs, k⟩ := x
  cases k with
  | no => exact h
  | row => exact ⟨Nat.lt_of_lt_of_le h.1 hs, fun j v hj => (World.cell?_of_block (w := w) (a := ⟨b, o + j, none⟩) (hb b rfl)).trans (h.2 j v hj)⟩
  | own => exact ⟨h.1, h.2.1, (hb b rfl).trans h.2.2⟩
  | fact q p => exact ⟨h.1, fun b' hq => ⟨(h.2.1 b' hq).1, Nat.lt_of_lt_of_le (h.2.1 b' hq).2 hs⟩, h.2.2.2 w w' h.2.2.1 hb hs, h.2.2.2⟩
  | facts q p => exact ⟨h.1, fun b' hq => ⟨(h.2.1 b' hq).1, Nat.lt_of_lt_of_le (h.2.1 b' hq).2 hs⟩, h.2.2.2 w w' h.2.2.1 hb hs, h.2.2.2⟩
theorem Bx.Holds.lt {ft : List Nat} {w0 w : World} {x : Bx} (h : x.Holds ft w0 w) {b : Nat} (hb : x.rd b) : b < w.heap.size := by
  obtain ⟨b', o, t, cs, k⟩ := x
  cases k with
  | no => cases hb
  | row => obtain rfl := Option.some.inj hb; exact h.1
  | own => obtain rfl := Option.some.inj hb; exact (Array.getElem?_eq_some_iff.1 h.2.2).1
  | fact q p => exact (h.2.1 b hb).2
  | facts q p => exact (h.2.1 b hb).2
/-- What is known holds. -/
structure Fits (ft : List Nat) (w0 : World) (h : List Bx) (w : World) : Prop where
  keep : Keep ft w0 w
  all : ∀ (i : Nat) (x : Bx), h[i]? = some x → x.Holds ft w0 w
  ne : ∀ (i j : Nat) (x y : Bx), h[i]? = some x → h[j]? = some y → i ≠ j → ∀ b, x.fp b → ¬ y.rd b
theorem Fits.cell {ft : List Nat} {w0 w : World} {h : List Bx} (H : Fits ft w0 h w) {i : Nat} {x : Bx} (hi : h[i]? = some x) {c : Nat} {v : Value} (hc : x.cs[c]? = some v) : w.cell? ⟨x.b, x.o + c, none⟩ = some v := by
  have hx := H.all i x hi
  obtain ⟨b, o, t, cs, k⟩ := x
  cases k with
  | no =>
    have h0 : cs = [] := hx
    simp only at hc
    rw [h0] at hc
    simp at hc
  | row => exact hx.2 c v hc
  | own =>
    obtain ⟨h0, _, hw⟩ := hx
    simp only at h0 hw hc
    unfold World.cell?
    simp only [h0, hw, Nat.zero_add]
    simpa using hc
  | fact q p =>
    obtain ⟨h0, _⟩ := hx
    simp only at h0 hc
    rw [h0] at hc
    simp at hc
  | facts q p =>
    obtain ⟨h0, _⟩ := hx
    simp only at h0 hc
    rw [h0] at hc
    simp at hc
/-- Another world in which all that is known is as it was. -/
theorem Fits.to {ft : List Nat} {w0 w w' : World} {h : List Bx} (H : Fits ft w0 h w) (hk : Keep ft w0 w') (hb : ∀ k, k < w.heap.size → w'.heap[k]? = w.heap[k]?) (hs : w.heap.size ≤ w'.heap.size) : Fits ft w0 h w' :=
  ⟨hk, fun i x hi => (H.all i x hi).to (fun b hr => hb b ((H.all i x hi).lt hr)) hs, H.ne⟩
theorem Fits.below {ft : List Nat} {w0 w w' : World} {h : List Bx} (H : Fits ft w0 h w) (hb : Below w.heap.size w w') : Fits ft w0 h w' :=
  H.to (H.keep.trans (Keep.of hb)) hb.block hb.size
theorem Fits.drew {ft : List Nat} {w0 w : World} {h : List Bx} (H : Fits ft w0 h w) : Fits ft w0 h { w with drawn := w.drawn + 1 } :=
  H.to H.keep.drew (fun _ _ => rfl) (Nat.le_refl _)
/-- One more that is known: it touches no block that was known. -/
theorem Fits.put {ft : List Nat} {w0 w : World} {h h' : List Bx} (H : Fits ft w0 h w) {n : Nat} {x : Bx} (hp : putNew h n x = some h') (hx : x.Holds ft w0 w) (hf : x.fp = x.rd) (hne : ∀ (i : Nat) (y : Bx), h[i]? = some y → ∀ b, x.rd b → ¬ y.rd b) : Fits ft w0 h' w := by
  have hno : noBx.rd = noS := rfl
  have hnf : noBx.fp = noS := rfl
  refine ⟨H.keep, fun i z hz => ?_, fun i j z y hz hy hij b hb => ?_⟩
  · rcases putNew_get hp hz with ⟨_, rfl⟩ | ⟨_, h1 | rfl⟩
    · exact hx
    · exact H.all i z h1
    · rfl
  · rcases putNew_get hp hz with ⟨e1, rfl⟩ | ⟨e1, h1 | rfl⟩ <;> rcases putNew_get hp hy with ⟨e2, rfl⟩ | ⟨e2, h2 | rfl⟩
    · exact absurd (e1.trans e2.symm) hij
    · exact hne j y h2 b (hf ▸ hb)
    · rw [hno]; exact fun h => nomatch h
    · intro hr
      have hb' : z.rd b := by
        obtain ⟨zb, zo, zt, zc, zk⟩ := z
        cases zk <;> first | exact hb | cases hb
      exact hne i z h1 b hr hb'
    · exact H.ne i j z y h1 h2 hij b hb
    · rw [hno]; exact fun h => nomatch h
    · rw [hnf] at hb; cases hb
    · rw [hnf] at hb; cases hb
    · rw [hnf] at hb; cases hb
theorem Fits.alloc {ft : List Nat} {w0 w : World} {h h' : List Bx} (H : Fits ft w0 h w) (c : Array Value) (t : TypeId) {n : Nat} (hp : putNew h n ⟨w.heap.size, 0, t, c.toList, .own⟩ = some h') : Fits ft w0 h' { w with heap := w.heap.push (.cells c t) } := by
  have H' : Fits ft w0 h { w with heap := w.heap.push (.cells c t) } := H.below (Below.alloc (Below.refl _ _) (Nat.le_refl _) _)
  refine H'.put hp ⟨rfl, Or.inr H.keep.size, by simp⟩ rfl fun i y hy b hb hr => ?_
  obtain rfl := Option.some.inj hb
  exact Nat.lt_irrefl _ ((H.all i y hy).lt hr)
theorem set_get {α : Type} {l : List α} {q x : α} {i j : Nat} (h : (l.set i q)[j]? = some x) : (j = i ∧ x = q) ∨ (j ≠ i ∧ l[j]? = some x) := by
  rw [List.getElem?_set] at h
  split at h
  · rename_i e
    split at h
    · exact Or.inl ⟨e.symm, (Option.some.inj h).symm⟩
    · cases h
  · rename_i e
    exact Or.inr ⟨fun e' => e e'.symm, h⟩
/-- A block that is known turns; all others stay. -/
theorem Fits.turn {ft : List Nat} {w0 w w' : World} {h : List Bx} (H : Fits ft w0 h w) {i : Nat} {x y : Bx} (hi : h[i]? = some x) (hf : x.fp = x.rd) (hr : y.rd = x.rd) (hy : y.Holds ft w0 w') (hk : Keep ft w0 w') (hs : w.heap.size ≤ w'.heap.size)
    (hb : ∀ k, k < w.heap.size → ¬ x.rd k → w'.heap[k]? = w.heap[k]?) : Fits ft w0 (h.set i y) w' := by
  have hyf : ∀ b, y.fp b → y.rd b := fun b hb => by
    obtain ⟨yb, yo, yt, yc, yk⟩ := y
    cases yk <;> first | exact hb | cases hb
  refine ⟨hk, fun j z hz => ?_, fun j k z u hz hu hjk b hb' => ?_⟩
  · rcases set_get hz with ⟨_, rfl⟩ | ⟨hne, hj⟩
    · exact hy
    · exact (H.all j z hj).to (fun b hzb => hb b ((H.all j z hj).lt hzb) fun hx => H.ne i j x z hi hj (Ne.symm hne) b (hf ▸ hx) hzb) hs
  · rcases set_get hz with ⟨e1, rfl⟩ | ⟨hne, hj⟩ <;> rcases set_get hu with ⟨e2, rfl⟩ | ⟨hne', hk'⟩
    · exact absurd (e1.trans e2.symm) hjk
    · exact H.ne i k x u hi hk' (Ne.symm hne') b (by rw [hf, ← hr]; exact hyf b hb')
    · rw [hr]
      exact H.ne j i z x hj hi hne b hb'
    · exact H.ne j k z u hj hk' hjk b hb'
theorem Fits.store {ft : List Nat} {w0 w : World} {h : List Bx} (H : Fits ft w0 h w) {i : Nat} {x : Bx} (hi : h[i]? = some x) (ho : x.k = .own) (c : Nat) (v : Value) :
    Fits ft w0 (h.set i ⟨x.b, x.o, x.t, x.cs.set c v, .own⟩) (w.setCell ⟨x.b, c, none⟩ v) := by
  have hx := H.all i x hi
  obtain ⟨b, o, t, cs, k⟩ := x
  simp only at ho
  subst ho
  obtain ⟨h0, h1, h2⟩ := hx
  simp only at h0 h1 h2
  have hoth : ∀ k, k ≠ b → (w.setCell ⟨b, c, none⟩ v).heap[k]? = w.heap[k]? := fun k hk => Below.heap_setCell w ⟨b, c, none⟩ v k hk
  have hsz : (w.setCell ⟨b, c, none⟩ v).heap.size = w.heap.size := by simp [World.setCell]
  refine H.turn hi rfl rfl ⟨h0, h1, ?_⟩ ⟨H.keep.os, H.keep.tape, H.keep.output, by rw [hsz]; exact H.keep.size, fun k hk hn => (hoth k ?_).trans (H.keep.block k hk hn)⟩ (by rw [hsz]; exact Nat.le_refl _) fun k _ hk => hoth k fun e => hk (by rw [e]; rfl)
  · unfold World.setCell
    simp only [Array.getElem?_modify, h2, Option.map_some, if_true]
    simp
  · rintro rfl
    rcases h1 with h1 | h1
    · exact hn h1
    · omega
/-- What is known is of the blocks that were known, or of new ones. -/
def Rel (h h' : List Bx) (w : World) : Prop := ∀ (i : Nat) (z : Bx) (b : Nat), h'[i]? = some z → z.rd b → w.heap.size ≤ b ∨ ∃ (j : Nat) (x : Bx), h[j]? = some x ∧ x.rd b ∧ (z.fp b → x.fp b)
theorem Rel.refl (h : List Bx) (w : World) : Rel h h w := fun i z _ hz hb => Or.inr ⟨i, z, hz, hb, fun h => h⟩
/-- For numbers of new blocks that are as they come. -/
theorem srun_sound {ρ : Type} {P : Program} {α : Type} {ft : List Nat} {w0 : World} {E : Sup} {nx : Nat} {K : α → List Bx → Cl ρ} {d : ρ} (m : Sem α) : ∀ (nw : Bool) (st : St) (w : World), Goods (srun P E nx m nw st K) d → Fits ft w0 st.h w → (nw = true → (E nx).1 = w.heap.size) →
    ∃ (a : α) (h' : List Bx) (w' : World), m.run P w = .ok a w' ∧ Goods (K a h') d ∧ Fits ft w0 h' w' ∧ w.heap.size ≤ w'.heap.size ∧ (∀ k, k < w.heap.size → (∀ (i : Nat) (x : Bx), st.h[i]? = some x → ¬ x.fp k) → w'.heap[k]? = w.heap[k]?) ∧ Rel st.h h' w := by
  induction m with
  | pure a => intro nw st w hg hF _; exact ⟨a, st.h, w, rfl, hg, hF, Nat.le_refl _, fun _ _ _ => rfl, Rel.refl _ _⟩
  | load md a k ih =>
    intro nw st w hg hF hp
    cases hn : next st.at_ with
    | none => simp only [srun, hn] at hg; exact hg.no.elim
    | some q =>
      obtain ⟨i, c, l⟩ := q
      cases hi : st.h[i]? with
      | none => simp only [srun, hn, hi] at hg; exact hg.no.elim
      | some x =>
        cases hc : x.cs[c]? with
        | none => simp only [srun, hn, hi, hc] at hg; exact hg.no.elim
        | some v =>
          simp only [srun, hn, hi, hc] at hg
          obtain ⟨he, hg1⟩ := hg.cl
          injection he with he
          injection he with he
          subst he
          have hw := hF.cell hi hc
          have : Sem.run P (.load md ⟨x.b, x.o + c, none⟩ k) w = (k v).run P w := by simp only [Sem.run, hw]
          rw [this]
          exact ih v nw ⟨st.h, l⟩ w hg1 hF hp
  | store md a v k ih =>
    intro nw st w hg hF hp
    cases hn : next st.at_ with
    | none => simp only [srun, hn] at hg; exact hg.no.elim
    | some q =>
      obtain ⟨i, c, l⟩ := q
      cases hi : st.h[i]? with
      | none => simp only [srun, hn, hi] at hg; exact hg.no.elim
      | some x =>
        obtain ⟨xb, xo, xt, xc, xk⟩ := x
        cases xk with
        | own =>
          cases hb : oneCell v && Nat.blt c xc.length with
          | false => simp only [srun, hn, hi, hb] at hg; exact hg.no.elim
          | true =>
            simp only [srun, hn, hi, hb] at hg
            rw [Bool.and_eq_true] at hb
            obtain ⟨hv, hlt⟩ := hb
            have hlt : c < xc.length := by simpa [Nat.blt_eq] using hlt
            obtain ⟨he, hg1⟩ := hg.cl
            injection he with he
            injection he with he
            subst he
            obtain ⟨h0, h1, h2⟩ := hF.all i _ hi
            simp only at h0 h1 h2
            have hc : w.cell? ⟨xb, c, none⟩ = some xc[c] := by
              unfold World.cell?
              simp [h2, hlt]
            have hf : w.frozen? ⟨xb, c, none⟩ = false := by
              unfold World.frozen?
              simp [h2]
            have : Sem.run P (.store md ⟨xb, c, none⟩ v k) w = k.run P (w.setCell ⟨xb, c, none⟩ v) := by
              cases v <;> first | (cases hv; done) | simp [Sem.run, hc, hf]
            rw [this]
            have hsz : (w.setCell ⟨xb, c, none⟩ v).heap.size = w.heap.size := by simp [World.setCell]
            obtain ⟨r, h', w', r1, r2, r3, r4, r5, r6⟩ := ih nw ⟨st.h.set i ⟨xb, xo, xt, xc.set c v, .own⟩, l⟩ _ hg1 (hF.store hi rfl c v) (fun h => (hp h).trans hsz.symm)
            rw [hsz] at r4 r5
            refine ⟨r, h', w', r1, r2, r3, r4, fun k hk hn => (r5 k hk fun j y hy => ?_).trans (Below.heap_setCell w ⟨xb, c, none⟩ v k fun e => hn i _ hi (by rw [e]; rfl)), fun j z b hz hb => ?_⟩
            · rcases set_get hy with ⟨_, e2⟩ | ⟨_, hy⟩
              · have := hn i _ hi
                rw [e2]
                exact this
              · exact hn j y hy
            · rcases r6 j z b hz hb with h | ⟨j', y, hy, e1, e2⟩
              · exact Or.inl (by rw [hsz] at h; exact h)
              · rcases set_get hy with ⟨e3, e4⟩ | ⟨_, hy⟩
                · refine Or.inr ⟨i, _, hi, ?_, ?_⟩
                  · rw [e4] at e1
                    exact e1
                  · rw [e4] at e2
                    exact e2
                · exact Or.inr ⟨j', y, hy, e1, e2⟩
        | _ => simp only [srun, hn, hi] at hg; exact hg.no.elim
  | new o k ih =>
    intro nw st w hg hF hp
    cases nw with
    | false => simp only [srun] at hg; exact hg.no.elim
    | true =>
      cases o with
      | cells c t fz =>
        obtain ⟨lo, hi⟩ := fz
        by_cases hz : lo = 0 ∧ hi = 0
        · obtain ⟨rfl, rfl⟩ := hz
          have hb := hp rfl
          simp only [srun] at hg
          rw [hb] at hg
          cases hq : putNew st.h nx ⟨w.heap.size, 0, t, c.toList, .own⟩ with
          | none => simp only [hq] at hg; exact hg.no.elim
          | some h' =>
            simp only [hq] at hg
            obtain ⟨r, h1, w', r1, r2, r3, r4, r5, r6⟩ := ih w.heap.size false ⟨h', st.at_⟩ { w with heap := w.heap.push (.cells c t) } hg (hF.alloc c t hq) (fun h => by cases h)
            simp only [Array.size_push] at r4 r5
            refine ⟨r, h1, w', r1, r2, r3, by omega, fun k hk hn => (r5 k (by omega) fun j y hy => ?_).trans (Below.heap_alloc w (.cells c t) k hk), fun j z b hz hb => ?_⟩
            · rcases putNew_get hq hy with ⟨_, rfl⟩ | ⟨_, hy | rfl⟩
              · intro e
                have e1 : w.heap.size = k := Option.some.inj e
                omega
              · exact hn j y hy
              · intro e
                cases e
            · rcases r6 j z b hz hb with h | ⟨j', y, hy, e1, e2⟩
              · simp only [Array.size_push] at h
                exact Or.inl (by omega)
              · rcases putNew_get hq hy with ⟨_, rfl⟩ | ⟨_, hy | rfl⟩
                · have e3 : w.heap.size = b := Option.some.inj e1
                  exact Or.inl (by omega)
                · exact Or.inr ⟨j', y, hy, e1, e2⟩
                · cases e1
        · refine absurd hg fun hg => ?_
          unfold srun at hg
          split at hg
          all_goals first | exact hg.no | skip
          all_goals simp_all
      | _ => simp only [srun] at hg; exact hg.no.elim
  | program k ih => intro nw st w hg hF hp; exact ih P nw st w hg hF hp
  | mark md k ih => intro nw st w hg hF hp; exact ih nw st w hg hF hp
  | _ => intro nw st w hg hF hp; exact hg.no.elim
/-- What is known of the slots. -/
abbrev Sl := List (Nat × Value)
def find : Sl → Nat → Option Value
  | [], _ => none
  | (k, v) :: l, n => match Nat.beq k n with
    | true => some v
    | false => find l n
def evT (T : Sl) : Operand → Value
  | .tmp t => match find T t with
    | some v => v
    | none => undef
  | .const v => v
  | .global g => .pointer (some ⟨g, 0, none⟩)
  | .func f => .func (.func f) #[] #[]
structure Has (n : Nat) (T : Sl) (a : Act) : Prop where
  d : a.defers = []
  n : a.tmps.size = n
  t : ∀ k v, find T k = some v → a.tmps[k]? = some v
def knownX (T : Sl) : Operand → Bool
  | .tmp t => (find T t).isSome
  | _ => true
def knownOp (T : Sl) (o : Oper) : Bool := (match o.op with | .select _ _ => false | _ => true) && o.op.operands.toList.all (knownX T)
theorem Has.eval {n : Nat} {T : Sl} {a : Act} (h : Has n T a) {x : Operand} (hx : knownX T x = true) : a.eval x = evT T x := by
  cases x with
  | tmp t =>
    cases ht : find T t with
    | none => simp [knownX, ht] at hx
    | some v => simp [Act.eval, evT, ht, Array.getD_eq_getD_getElem?, h.t t v ht]
  | _ => rfl
theorem op_eval {T : Sl} {a : Act} {o : Oper} (ho : knownOp T o = true) (h : ∀ x ∈ o.op.operands, knownX T x = true → a.eval x = evT T x) : execOp a.eval o = execOp (evT T) o := by
  unfold knownOp at ho
  rw [Bool.and_eq_true, List.all_eq_true] at ho
  refine execOp_congr o (fun cs b hs => ?_) fun x hx => h x hx (ho.2 x (by simpa using hx))
  rw [hs] at ho
  cases ho.1
def putT (n : Nat) (T : Sl) (d : Option Tmp) (v : Value) : Option Sl :=
  match d with
  | none => some T
  | some d => match Nat.blt d n with
    | true => some ((d, v) :: T)
    | false => none
theorem Has.put {n : Nat} {T T' : Sl} {a : Act} (h : Has n T a) {d : Option Tmp} {v : Value} (hp : putT n T d v = some T') : Has n T' (a.put d v) := by
  cases d with
  | none =>
    obtain rfl := Option.some.inj hp
    exact h
  | some d =>
    simp only [putT] at hp
    split at hp
    · rename_i hd
      have hd : d < n := by simpa [Nat.blt_eq] using hd
      obtain rfl := Option.some.inj hp
      refine ⟨h.d, by simpa [Act.put] using h.n, fun k x hk => ?_⟩
      simp only [find] at hk
      simp only [Act.put, Array.getElem?_setIfInBounds]
      split at hk
      · rename_i hb
        have := Nat.eq_of_beq_eq_true hb
        subst this
        rw [if_pos rfl, if_pos (by rw [h.n]; exact hd), hk]
      · rename_i hb
        have : d ≠ k := Nat.ne_of_beq_eq_false hb
        rw [if_neg this]
        exact h.t k x hk
    · cases hp
/-- What is said of an operation. -/
inductive Hint where
  | at (l : List (Nat × Nat × Nat))
  | rw (v v' : Env → Value)
  | call (f : FuncId) (args : Env → List Value) (v : Env → Value)
  | callg (f : FuncId) (args : Env → List Value) (v : Env → Value) (pre post : List (Nat × (Env → Bx))) (k : Nat) (new : List (Env → FV))
  | opc (op : Op) (xs : Env → List Value) (v : Env → Value) (pre post : List (Nat × (Env → Bx))) (k : Nat) (new : List (Env → FV))
  | sto (op : Op) (xs : Env → List Value) (pre post : List (Nat × (Env → Bx)))
  | ix (t : TypeId) (x i v : Env → Value)
  | own (i : Nat) (t : TypeId) (cs : Env → List Value) (pr : Env → World → Prop)
/-- What is said of a new block, number i. -/
def factE (i : Nat) (pr : Env → World → Prop) (E : Env) : Bx := ⟨0, 0, 0, [], .fact ((E.f i).map (·.block)) (pr E)⟩
def envN {α : Type} (new : List α) (E : Env) (nx : Nat) (q : Sup) : Env := match new with
  | _ :: l => envN l (E.set nx (q nx)) (nx + 1) q
  | [] => E
theorem envN_eq {α : Type} {q q' : Sup} : ∀ (new : List α) (E : Env) (nx : Nat), (∀ i, nx ≤ i → i < nx + new.length → q i = q' i) → envN new E nx q = envN new E nx q'
  | [], _, _, _ => rfl
  | _ :: l, E, nx, h => by
    simp only [envN]
    rw [h nx (Nat.le_refl _) (by simp), envN_eq l _ (nx + 1) fun i h1 h2 => h i (by omega) (by simp only [List.length_cons]; omega)]
/-- What a call leaves that turns blocks that are known, and hands out a slice. -/
structure GPost (ft : List Nat) (w0 : World) (nx : Nat) (v : Env → Value) (pre post : List (Nat × (Env → Bx))) (new : List (Env → FV)) (E : Env) (W : World) (e : Ending) (w' : World) (q : Sup) : Prop where
  ret : e = .returned (v (envN new E nx q))
  ps : ∀ p ∈ post, (p.2 (envN new E nx q)).Holds ft w0 w'
  keep : Keep ft w0 w'
  size : W.heap.size ≤ w'.heap.size
  frame : ∀ k, k < W.heap.size → (∀ p ∈ pre, p.1 ∈ post.map Prod.fst → ¬ (p.2 E).rd k) → w'.heap[k]? = W.heap[k]?
  nw : ∀ (j : Nat) (p : Env → FV), new[j]? = some p → (p (envN new E nx q)).h w' ∧ (p (envN new E nx q)).loc (q (nx + j)).2 ∧
    ∀ b, (p (envN new E nx q)).s (q (nx + j)).2 b → b < w'.heap.size ∧ (W.heap.size ≤ b ∨ ∃ p ∈ pre, (p.2 E).fp b ∧ p.1 ∈ post.map Prod.fst ∧ ∀ p' ∈ post, p'.1 = p.1 → (p'.2 (envN new E nx q)).rd = noS) ∧
      ∀ j', j' < new.length → j' ≠ j → ∀ p', new[j']? = some p' → ¬ (p' (envN new E nx q)).s (q (nx + j')).2 b
def nodupB : List Nat → Bool
  | [] => true
  | i :: l => !l.any (Nat.beq i) && nodupB l
theorem nodupB_ne : ∀ {l : List Nat} {i j a b : Nat}, nodupB l = true → l[i]? = some a → l[j]? = some b → i ≠ j → a ≠ b
  | [], i, _, a, _, _, h, _, _ => by simp at h
  | x :: l, 0, 0, _, _, _, _, _, hij => absurd rfl hij
  | x :: l, 0, j + 1, a, b, hn, ha, hb, _ => by
    simp only [nodupB, Bool.and_eq_true, Bool.not_eq_true'] at hn
    obtain rfl : x = a := by simpa using ha
    intro e
    have hm : b ∈ l := List.mem_of_getElem? (by simpa using hb)
    rw [List.any_eq_false] at hn
    exact hn.1 b hm (by rw [e]; exact Nat.beq_refl b)
  | x :: l, i + 1, 0, a, b, hn, ha, hb, _ => by
    simp only [nodupB, Bool.and_eq_true, Bool.not_eq_true'] at hn
    obtain rfl : x = b := by simpa using hb
    intro e
    have hm : a ∈ l := List.mem_of_getElem? (by simpa using ha)
    rw [List.any_eq_false] at hn
    exact hn.1 a hm (by rw [e]; exact Nat.beq_refl x)
  | x :: l, i + 1, j + 1, a, b, hn, ha, hb, hij => by
    simp only [nodupB, Bool.and_eq_true] at hn
    exact nodupB_ne hn.2 (by simpa using ha) (by simpa using hb) (by omega)
theorem Fits.part {ft : List Nat} {w0 w : World} {h : List Bx} {E : Env} (hF : Fits ft w0 h w) {bs : List (Nat × (Env → Bx))} (hn : nodupB (bs.map (·.1)) = true) (hp : ∀ p ∈ bs, (p.2 E).Holds ft w0 w ∧ ∃ x, h[p.1]? = some x ∧ x.rd = (p.2 E).rd ∧ x.fp = (p.2 E).fp) : Fits ft w0 (bs.map fun p => p.2 E) w := by
  refine ⟨hF.keep, fun i x hi => ?_, fun i j x y hi hj hij b hb hyb => ?_⟩
  · rw [List.getElem?_map, Option.map_eq_some_iff] at hi
    obtain ⟨p, hp1, rfl⟩ := hi
    exact (hp p (List.mem_of_getElem? hp1)).1
  · rw [List.getElem?_map, Option.map_eq_some_iff] at hi hj
    obtain ⟨p, hp1, rfl⟩ := hi
    obtain ⟨p', hp2, rfl⟩ := hj
    obtain ⟨_, z, hz, hz1, hz2⟩ := hp p (List.mem_of_getElem? hp1)
    obtain ⟨_, z', hz', hz3, hz4⟩ := hp p' (List.mem_of_getElem? hp2)
    exact hF.ne p.1 p'.1 z z' hz hz' (nodupB_ne hn (by rw [List.getElem?_map, hp1]; rfl) (by rw [List.getElem?_map, hp2]; rfl) hij) b ((congrFun hz2 b).mpr hb) ((congrFun hz3 b).mpr hyb)
def Hint.Ok (P : Program) (ft : List Nat) (w0 : World) : Hint → Prop
  | .at _ => True
  | .rw v v' => ∀ E, v E = v' E
  | .call f args v => ∀ E W, Keep ft w0 W → Calls P f (args E).toArray W fun e w' => e = .returned (v E) ∧ Below W.heap.size W w'
  | .callg f args v pre post k new => ∀ E W, Keep ft w0 W → (∀ p ∈ pre, (p.2 E).Holds ft w0 W) ∧ (nodupB (pre.map (·.1)) = true → Fits ft w0 (pre.map fun p => p.2 E) W) → Calls P f (args E).toArray W fun e w' => ∃ q, GPost ft w0 k v pre post new E W e w' q
  | .opc op xs v pre post k new => ∀ E W (ρ : Operand → Value) (o : Oper), o.op = op → op.operands.toList.map ρ = xs E → Keep ft w0 W → (∀ p ∈ pre, (p.2 E).Holds ft w0 W) ∧ (nodupB (pre.map (·.1)) = true → Fits ft w0 (pre.map fun p => p.2 E) W) → ∃ x q w', (execOp ρ o).run P W = .ok (.value x) w' ∧ GPost ft w0 k v pre post new E W (.returned x) w' q
  | .sto op xs pre post => ∀ E W (ρ : Operand → Value) (o : Oper), o.op = op → op.operands.toList.map ρ = xs E → Keep ft w0 W → (∀ p ∈ pre, (p.2 E).Holds ft w0 W) ∧ (nodupB (pre.map (·.1)) = true → Fits ft w0 (pre.map fun p => p.2 E) W) → ∃ q w', (execOp ρ o).run P W = .ok .skip w' ∧ GPost ft w0 0 (fun _ => undef) pre post [] E W (.returned undef) w' q
  | .ix t x i v => ∀ E W, (Instr.indexAt t (x E) (i E)).run P W = .ok (v E) W
  | .own i t cs pr => ∀ E W, pr E W → (E.f i).map (·.block) = some (E.b i) ∧ W.heap[E.b i]? = some (.cells (cs E).toArray t)
def makes (o : Oper) : Bool := match o.op with
  | .alloc _ => true
  | .box _ _ => true
  | .buildSlice _ _ _ => true
  | _ => false
/-- How many numbers an operation takes. -/
def takes (o : Oper) (hint : Option Hint) : Nat := match makes o with
  | true => 1
  | false => match hint with
    | some (.callg _ _ _ _ _ _ new) => new.length
    | some (.opc _ _ _ _ _ _ new) => new.length
    | _ => 0
/-- Which blocks that are known an operation looks at. -/
def accOf : Option Hint → List Nat
  | some (.at l) => l.map (·.1)
  | some (.callg _ _ _ pre _ _ _) => pre.map (·.1)
  | some (.opc _ _ _ pre _ _ _) => pre.map (·.1)
  | some (.sto _ _ pre _) => pre.map (·.1)
  | some (.own i _ _ _) => [i]
  | _ => []
def clBx {ρ : Type} (y x : Bx) (r : Cl ρ) : Cl ρ := match y.k, x.k with
  | .own, .own => match Nat.beq y.t x.t with
    | true => cl (.pointer (some ⟨y.b, y.o, none⟩)) (.pointer (some ⟨x.b, x.o, none⟩)) (cl (.tuple y.cs.toArray) (.tuple x.cs.toArray) r)
    | false => none
  | .row, .row => match Nat.beq y.t x.t with
    | true => cl (.pointer (some ⟨y.b, y.o, none⟩)) (.pointer (some ⟨x.b, x.o, none⟩)) (cl (.tuple y.cs.toArray) (.tuple x.cs.toArray) r)
    | false => none
  | .fact q p, .fact q' p' => cl (.slice (q.map fun b => ⟨b, 0, none⟩) 0 0) (.slice (q'.map fun b => ⟨b, 0, none⟩) 0 0) (clc (.p p) (.p p') (match x.cs with
    | [] => r
    | _ => none))
  | .facts q p, .facts q' p' => clc (.l q) (.l q') (clc (.p p) (.p p') (match x.cs with
    | [] => r
    | _ => none))
  | _, _ => none
def clPre {ρ : Type} (h : List Bx) (E : Env) : List (Nat × (Env → Bx)) → Cl ρ → Cl ρ
  | [], r => r
  | (i, x) :: l, r => match h[i]? with
    | some y => clBx y (x E) (clPre h E l r)
    | none => none
/-- Blocks that are known turn: each keeps its block, or is forgotten. -/
def setAll {ρ : Type} (E : Env) : List Bx → List (Nat × (Env → Bx)) → (List Bx → Cl ρ) → Cl ρ
  | h, [], K => K h
  | h, (i, x) :: l, K => match h[i]? with
    | some y => match y.k, (x E).k with
      | .own, .own => cl (.pointer (some ⟨y.b, 0, none⟩)) (.pointer (some ⟨(x E).b, 0, none⟩)) (setAll E (h.set i (x E)) l K)
      | .fact q _, .fact q' _ => cl (.slice (q.map fun b => ⟨b, 0, none⟩) 0 0) (.slice (q'.map fun b => ⟨b, 0, none⟩) 0 0) (setAll E (h.set i (x E)) l K)
      | .own, .no => setAll E (h.set i (x E)) l K
      | .fact _ _, .no => setAll E (h.set i (x E)) l K
      | .facts q _, .facts q' _ => clc (.l q) (.l q') (setAll E (h.set i (x E)) l K)
      | .facts _ _, .no => setAll E (h.set i (x E)) l K
      | _, _ => none
    | none => none
def noMake {ρ : Type} (o : Oper) (r : Cl ρ) : Cl ρ := match makes o with
  | true => none
  | false => r
theorem Goods.noMake {ρ : Type} {o : Oper} {r : Cl ρ} {d : ρ} (h : Goods (noMake o r) d) : makes o = false ∧ Goods r d := by
  unfold Go.Proofs.YtbhnjaajkolklaaGreat.noMake at h
  split at h
  · exact h.no.elim
  · rename_i hm
    exact ⟨hm, h⟩
def newOk {α : Type} (new : List α) (k nx : Nat) : Bool := match new with
  | _ :: _ => Nat.beq k nx
  | [] => true
def factB (q : Sup) (en : Env) (n : Nat) (p : Env → FV) : Bx := (p en).bx (q n).2
def putNews (q : Sup) (en : Env) : List (Env → FV) → Nat → List Bx → Option (List Bx)
  | [], _, h => some h
  | p :: l, n, h => match putNew h n (factB q en n p) with
    | some h' => putNews q en l (n + 1) h'
    | none => none
def callEnd (v : Env → Value) (new : List (Env → FV)) (en : Env) (nx : Nat) (q : Sup) (h2 : List Bx) : Cl (Value × List Bx) := match putNews q (envN new en nx q) new nx h2 with
  | some h3 => some ([], v (envN new en nx q), h3)
  | none => none
/-- What an operation leaves in its temporary, and in the blocks that are known. n0: how far what is told may look. -/
def exOp (P : Program) (E : Sup) (n0 nx : Nat) (o : Oper) (hint : Option Hint) (T : Sl) (h : List Bx) : Cl (Value × List Bx) :=
  match knownOp T o with
  | false => none
  | true => match hint with
    | none => srun P E nx (execOp (evT T) o) (makes o) ⟨h, []⟩ fun x h' => match x with
      | .value v => some ([], v, h')
      | .skip => some ([], undef, h')
      | _ => none
    | some (.at l) => srun P E nx (execOp (evT T) o) (makes o) ⟨h, l⟩ fun x h' => match x with
      | .value v => some ([], v, h')
      | .skip => some ([], undef, h')
      | _ => none
    | some (.rw v v') => noMake o <| srun P E nx (execOp (evT T) o) false ⟨h, []⟩ fun x h' => match x with
      | .value y => cl y (v (selE [] n0 E)) (some ([], v' (selE [] n0 E), h'))
      | _ => none
    | some (.call f args v) => noMake o <| srun P E nx (execOp (evT T) o) false ⟨h, []⟩ fun x h' => match x with
      | .enter g bs => match Nat.beq g f with
        | true => cl (.tuple bs) (.tuple (args (selE [] n0 E)).toArray) (some ([], v (selE [] n0 E), h'))
        | false => none
      | _ => none
    | some (.ix t x i v) => noMake o <| match o.op with
      | .indexAddr t' x' i' => match Nat.beq t' t with
        | true => cl (evT T x') (x (selE [] n0 E)) (cl (evT T i') (i (selE [] n0 E)) (some ([], v (selE [] n0 E), h)))
        | false => none
      | _ => none
    | some (.own i t cs pr) => noMake o <| clPre h (selE [i] n0 E) [(i, factE i pr)] (srun P E nx (execOp (evT T) o) false ⟨h.set i ⟨(selE [i] n0 E).b i, 0, t, cs (selE [i] n0 E), .own⟩, []⟩ fun x h' => match x with
      | .value v => some ([], v, h')
      | .skip => some ([], undef, h')
      | _ => none)
    | some (.callg f args v pre post k new) => noMake o <| srun P E nx (execOp (evT T) o) false ⟨h, []⟩ fun x h' => match x with
      | .enter g bs => match Nat.beq g f && newOk new k nx with
        | true => cl (.tuple bs) (.tuple (args (selE (pre.map (·.1)) n0 E)).toArray) (clPre h' (selE (pre.map (·.1)) n0 E) pre (setAll (envN new (selE (pre.map (·.1)) n0 E) nx E) h' post (callEnd v new (selE (pre.map (·.1)) n0 E) nx E)))
        | false => none
      | _ => none
    | some (.sto op xs pre post) => noMake o <| clc (.o o.op) (.o op) (cl (.tuple (op.operands.toList.map (evT T)).toArray) (.tuple (xs (selE (pre.map (·.1)) n0 E)).toArray) (clPre h (selE (pre.map (·.1)) n0 E) pre (setAll (envN ([] : List (Env → FV)) (selE (pre.map (·.1)) n0 E) nx E) h post (callEnd (fun _ => undef) [] (selE (pre.map (·.1)) n0 E) nx E))))
    | some (.opc op xs v pre post k new) => noMake o <| match newOk new k nx with
      | true => clc (.o o.op) (.o op) (cl (.tuple (op.operands.toList.map (evT T)).toArray) (.tuple (xs (selE (pre.map (·.1)) n0 E)).toArray) (clPre h (selE (pre.map (·.1)) n0 E) pre (setAll (envN new (selE (pre.map (·.1)) n0 E) nx E) h post (callEnd v new (selE (pre.map (·.1)) n0 E) nx E))))
      | false => none
/-- How the blocks that are known turned. -/
theorem setAll_sound {ρ : Type} {E : Env} {K : List Bx → Cl ρ} {d : ρ} : ∀ (l : List (Nat × (Env → Bx))) (h : List Bx), Goods (setAll E h l K) d → ∃ h', Goods (K h') d ∧ (∀ p ∈ l, ∃ x, h[p.1]? = some x ∧ x.fp = x.rd) ∧
    ∀ (j : Nat) (z : Bx), h'[j]? = some z → ∃ x, h[j]? = some x ∧ ((z = x ∧ ∀ p ∈ l, p.1 ≠ j) ∨ (x.fp = x.rd ∧ (z.rd = x.rd ∨ z.rd = noS) ∧ ∃ p ∈ l, p.1 = j ∧ z = p.2 E))
  | [], h, hg => ⟨h, hg, fun p hp => (by cases hp), fun j z hz => ⟨z, hz, Or.inl ⟨rfl, fun p hp => by cases hp⟩⟩⟩
  | (i, x) :: l, h, hg => by
    simp only [setAll] at hg
    cases hi : h[i]? with
    | none => simp only [hi] at hg; exact hg.no.elim
    | some y =>
      simp only [hi] at hg
      have key : Goods (setAll E (h.set i (x E)) l K) d → y.fp = y.rd → ((x E).rd = y.rd ∨ (x E).rd = noS) → ∃ h', Goods (K h') d ∧ (∀ p ∈ (i, x) :: l, ∃ x, h[p.1]? = some x ∧ x.fp = x.rd) ∧
          ∀ (j : Nat) (z : Bx), h'[j]? = some z → ∃ u, h[j]? = some u ∧ ((z = u ∧ ∀ p ∈ (i, x) :: l, p.1 ≠ j) ∨ (u.fp = u.rd ∧ (z.rd = u.rd ∨ z.rd = noS) ∧ ∃ p ∈ (i, x) :: l, p.1 = j ∧ z = p.2 E)) := fun hg hf hr => by
        obtain ⟨h', hK, hall, hc⟩ := setAll_sound l (h.set i (x E)) hg
        refine ⟨h', hK, fun p hp => ?_, fun j z hz => ?_⟩
        · rcases List.mem_cons.1 hp with rfl | hp
          · exact ⟨y, hi, hf⟩
          · obtain ⟨u, hu, hfu⟩ := hall p hp
            rcases set_get hu with ⟨e1, _⟩ | ⟨_, hu⟩
            · exact ⟨y, by rw [e1]; exact hi, hf⟩
            · exact ⟨u, hu, hfu⟩
        obtain ⟨u, hu, hcase⟩ := hc j z hz
        rcases set_get hu with ⟨e1, e2⟩ | ⟨hne, hu⟩
        · refine ⟨y, by rw [e1]; exact hi, Or.inr ⟨hf, ?_⟩⟩
          rcases hcase with ⟨e3, _⟩ | ⟨h1, h2, p, hp, h3, h4⟩
          · rw [e3, e2]
            exact ⟨hr, (i, x), List.mem_cons_self .., e1.symm, rfl⟩
          · refine ⟨?_, p, List.mem_cons_of_mem _ hp, h3, h4⟩
            rw [e2] at h2
            rcases h2 with h2 | h2
            · rw [h2]
              exact hr
            · exact Or.inr h2
        · refine ⟨u, hu, ?_⟩
          rcases hcase with ⟨h1, h2⟩ | ⟨h1, h2, p, hp, h3, h4⟩
          · refine Or.inl ⟨h1, fun p hp => ?_⟩
            rcases List.mem_cons.1 hp with rfl | hp
            · exact Ne.symm hne
            · exact h2 p hp
          · exact Or.inr ⟨h1, h2, p, List.mem_cons_of_mem _ hp, h3, h4⟩
      obtain ⟨yb, yo, yt, yc, yk⟩ := y
      cases hx : x E with
      | mk xb xo xt xc xk =>
      simp only [hx] at hg key
      cases yk <;> cases xk <;> simp only at hg <;> first
        | exact hg.no.elim
        | (exact key hg rfl (Or.inr rfl))
        | skip
      · obtain ⟨h1, hg⟩ := hg.cl
        injection h1 with h1
        injection h1 with h1
        injection h1 with h1
        exact key hg rfl (Or.inl (by rw [h1]; rfl))
      · rename_i q p q' p'
        obtain ⟨h1, hg⟩ := hg.cl
        have h2 : q = q' := by
          injection h1 with h1
          cases q <;> cases q' <;> simp_all
        exact key hg rfl (Or.inl (by rw [h2]; rfl))
      · obtain ⟨h1, hg⟩ := hg.clc
        injection h1 with h1
        exact key hg rfl (Or.inl (by rw [h1]; rfl))
theorem clPre_sound {ρ : Type} {ft : List Nat} {w0 w : World} {h : List Bx} {E : Env} {d : ρ} (hF : Fits ft w0 h w) : ∀ (l : List (Nat × (Env → Bx))) (r : Cl ρ), Goods (clPre h E l r) d → Goods r d ∧ ∀ p ∈ l, (p.2 E).Holds ft w0 w ∧ ∃ x, h[p.1]? = some x ∧ x.rd = (p.2 E).rd ∧ x.fp = (p.2 E).fp
  | [], r, hg => ⟨hg, fun p hp => by cases hp⟩
  | (i, x) :: l, r, hg => by
    simp only [clPre] at hg
    cases hi : h[i]? with
    | none => simp only [hi] at hg; exact hg.no.elim
    | some y =>
      simp only [hi] at hg
      have hy := hF.all i y hi
      have key : Goods (clPre h E l r) d → (x E).Holds ft w0 w → y.rd = (x E).rd → y.fp = (x E).fp → Goods r d ∧ ∀ p ∈ (i, x) :: l, (p.2 E).Holds ft w0 w ∧ ∃ z, h[p.1]? = some z ∧ z.rd = (p.2 E).rd ∧ z.fp = (p.2 E).fp := fun hg h1 h2 h3 => by
        obtain ⟨hr, hl⟩ := clPre_sound hF l r hg
        refine ⟨hr, fun p hp => ?_⟩
        rcases List.mem_cons.1 hp with rfl | hp
        · exact ⟨h1, y, hi, h2, h3⟩
        · exact hl p hp
      obtain ⟨yb, yo, yt, yc, yk⟩ := y
      have ptr : ∀ {b o b' o' : Nat}, Value.pointer (some ⟨b, o, none⟩) = .pointer (some ⟨b', o', none⟩) → b = b' ∧ o = o' := fun h => by
        injection h with h
        injection h with h
        injection h with h1 h2
        exact ⟨h1, h2⟩
      have tup : ∀ {c c' : List Value}, Value.tuple c.toArray = .tuple c'.toArray → c = c' := fun h => by
        injection h with h
        simpa using h
      cases hx : x E with
      | mk xb xo xt xc xk =>
      simp only [hx] at hg key
      cases yk <;> cases xk <;> simp only [clBx] at hg <;> first
        | exact hg.no.elim
        | skip
      · cases ht : Nat.beq yt xt with
        | false => simp only [ht] at hg; exact hg.no.elim
        | true =>
          simp only [ht] at hg
          obtain ⟨h1, h2⟩ := ptr hg.cl.1
          have h3 := tup hg.cl.2.cl.1
          have h4 := Nat.eq_of_beq_eq_true ht
          subst h1 h2 h3 h4
          exact key hg.cl.2.cl.2 hy rfl rfl
      · cases ht : Nat.beq yt xt with
        | false => simp only [ht] at hg; exact hg.no.elim
        | true =>
          simp only [ht] at hg
          obtain ⟨h1, h2⟩ := ptr hg.cl.1
          have h3 := tup hg.cl.2.cl.1
          have h4 := Nat.eq_of_beq_eq_true ht
          subst h1 h2 h3 h4
          exact key hg.cl.2.cl.2 hy rfl rfl
      · rename_i q p q' p'
        cases xc with
        | cons c cs => simp only at hg; exact hg.cl.2.clc.2.no.elim
        | nil =>
          simp only at hg
          have h1 := hg.cl.1
          have h2 := hg.cl.2.clc.1
          have h3 : q = q' := by
            injection h1 with h1
            cases q <;> cases q' <;> simp_all
          injection h2 with h2
          subst h2 h3
          exact key hg.cl.2.clc.2 ⟨rfl, hy.2⟩ rfl rfl
      · cases xc with
        | cons c cs => simp only at hg; exact hg.clc.2.clc.2.no.elim
        | nil =>
          simp only at hg
          have h1 := hg.clc.1
          have h2 := hg.clc.2.clc.1
          injection h1 with h1
          injection h2 with h2
          subst h1 h2
          exact key hg.clc.2.clc.2 ⟨rfl, hy.2⟩ rfl rfl
theorem callEnd_sound {v : Env → Value} {new : List (Env → FV)} {en : Env} {nx : Nat} {q : Sup} {h2 : List Bx} {d : Value × List Bx} (h : Goods (callEnd v new en nx q h2) d) : ∃ h3, putNews q (envN new en nx q) new nx h2 = some h3 ∧ d = (v (envN new en nx q), h3) := by
  simp only [callEnd] at h
  cases hp : putNews q (envN new en nx q) new nx h2 with
  | none => simp only [hp] at h; exact h.no.elim
  | some h3 =>
    simp only [hp] at h
    exact ⟨h3, rfl, h.ret.symm⟩
theorem putNews_eq {q q' : Sup} {en : Env} : ∀ (new : List (Env → FV)) (n : Nat) (h : List Bx), (∀ i, n ≤ i → i < n + new.length → q i = q' i) → putNews q en new n h = putNews q' en new n h
  | [], _, _, _ => rfl
  | p :: l, n, h, hq => by
    simp only [putNews, factB]
    rw [hq n (Nat.le_refl _) (by simp)]
    split
    · exact putNews_eq l (n + 1) _ fun i h1 h2 => hq i (by omega) (by simp only [List.length_cons]; omega)
    · rfl
/-- New facts: they touch nothing that was known, nor each other. -/
theorem Fits.puts {ft : List Nat} {w0 w : World} {q : Sup} {en : Env} : ∀ (new : List (Env → FV)) (n : Nat) (h h' : List Bx), Fits ft w0 h w → putNews q en new n h = some h' → (∀ j p, new[j]? = some p → (factB q en (n + j) p).Holds ft w0 w) →
    (∀ j p, new[j]? = some p → ∀ b, (p en).s (q (n + j)).2 b → (∀ (i : Nat) (y : Bx), h[i]? = some y → ¬ y.rd b) ∧ ∀ j', j' < new.length → j' ≠ j → ∀ p', new[j']? = some p' → ¬ (p' en).s (q (n + j')).2 b) →
    Fits ft w0 h' w ∧ ∀ (i : Nat) (z : Bx), h'[i]? = some z → h[i]? = some z ∨ z = noBx ∨ ∃ j p, new[j]? = some p ∧ z = factB q en (n + j) p
  | [], n, h, h', H, hp, _, _ => by
    obtain rfl := Option.some.inj hp
    exact ⟨H, fun i z hz => Or.inl hz⟩
  | p :: l, n, h, h', H, hp, hh, hf => by
    simp only [putNews] at hp
    cases hq : putNew h n (factB q en n p) with
    | none => simp only [hq] at hp; cases hp
    | some h1 =>
      simp only [hq] at hp
      have h0 := hf 0 p rfl
      rw [Nat.add_zero] at h0
      have H1 := H.put hq (hh 0 p rfl) (by unfold factB; rw [FV.bx_fp, FV.bx_rd]) fun i y hy b hb => (h0 b (by unfold factB at hb; rw [FV.bx_rd] at hb; exact hb)).1 i y hy
      obtain ⟨r1, r2⟩ := Fits.puts l (n + 1) h1 h' H1 hp (fun j p' hj => by rw [Nat.add_assoc, Nat.add_comm 1 j]; exact hh (j + 1) p' (by simpa using hj)) fun j p' hj b hb => by
        rw [Nat.add_assoc, Nat.add_comm 1 j] at hb
        obtain ⟨g1, g2⟩ := hf (j + 1) p' (by simpa using hj) b hb
        refine ⟨fun i y hy hyb => ?_, fun j' hj' hne => ?_⟩
        · rcases putNew_get hq hy with ⟨_, rfl⟩ | ⟨_, hy | rfl⟩
          · exact g2 0 (by simp) (by omega) p rfl (by rw [Nat.add_zero]; unfold factB at hyb; rw [FV.bx_rd] at hyb; exact hyb)
          · exact g1 i y hy hyb
          · cases hyb
        · rw [Nat.add_assoc, Nat.add_comm 1 j']
          exact fun p' hp' => g2 (j' + 1) (by simp only [List.length_cons]; omega) (by omega) p' (by simpa using hp')
      refine ⟨r1, fun i z hz => ?_⟩
      rcases r2 i z hz with hz | rfl | ⟨j, p', hj, rfl⟩
      · rcases putNew_get hq hz with ⟨_, rfl⟩ | ⟨_, hz | rfl⟩
        · exact Or.inr (Or.inr ⟨0, p, rfl, rfl⟩)
        · exact Or.inl hz
        · exact Or.inr (Or.inl rfl)
      · exact Or.inr (Or.inl rfl)
      · exact Or.inr (Or.inr ⟨j + 1, p', by simpa using hj, by rw [Nat.add_assoc, Nat.add_comm 1 j]⟩)
end Go.Proofs.YtbhnjaajkolklaaGreat
