/- What MemExact keeps in memory. -/
import Derived.Test.YtpnkhijbfnnggaaHeavy
import Derived.Test.YtpnkhijbfnnggaaMemG
import Derived.Deep.DeepCutAuto
import Derived.Deep.CutBlock
namespace Go.Proofs.Ytpnkhijbfnnggaa
open Go.ChangeShapes Go.WideShapes Go.ChangeAt Go.RowKit Go.Deep

/-- Where MemExact's variables lie. -/
structure Blks where
  s : Nat
  m : Nat
  a : Nat
  i : Nat
  w : Nat
  x : Nat
/-- That they lie apart. -/
structure Blks.Apart (b : Blks) : Prop where
  sm : b.s < b.m
  ma : b.m < b.a
  ai : b.a < b.i
  iw : b.i < b.w
  wx : b.w < b.x
/-- What they hold. -/
structure ExAt (W : World) (b : Blks) (p0 p1 : Value) (q : ActV) (vm vi vw vx : Value) : Prop where
  p0 : Loc W b.s 0 p0
  p1 : Loc W b.s 1 p1
  m : Loc W b.m 0 vm
  a1 : Loc W b.a 1 (.int .i64 q.a)
  a2 : Loc W b.a 2 (.int .i64 q.s)
  a3 : Loc W b.a 3 (.int .u64 (u q.v))
  a4 : Loc W b.a 4 (.slice q.f q.l q.c)
  i : Loc W b.i 0 vi
  w : Loc W b.w 0 vw
  x : Loc W b.x 0 vx
section
variable {W W' : World} {b : Blks} {p0 p1 : Value} {q : ActV} {vm vi vw vx : Value}
theorem ExAt.below (h : ExAt W b p0 p1 q vm vi vw vx) (hb : Below W.heap.size W W') : ExAt W' b p0 p1 q vm vi vw vx :=
  ⟨h.p0.below hb, h.p1.below hb, h.m.below hb, h.a1.below hb, h.a2.below hb, h.a3.below hb, h.a4.below hb, h.i.below hb, h.w.below hb, h.x.below hb⟩
theorem ExAt.under {B : Nat} (h : ExAt W b p0 p1 q vm vi vw vx) (ha : b.Apart) (hb : Below B W W') (hB : b.x < B) : ExAt W' b p0 p1 q vm vi vw vx := by
  obtain ⟨_, _, _, _, _⟩ := ha
  exact ⟨h.p0.under hb (by omega), h.p1.under hb (by omega), h.m.under hb (by omega), h.a1.under hb (by omega), h.a2.under hb (by omega), h.a3.under hb (by omega), h.a4.under hb (by omega), h.i.under hb (by omega), h.w.under hb (by omega), h.x.under hb (by omega)⟩
theorem ExAt.setW (h : ExAt W b p0 p1 q vm vi vw vx) (ha : b.Apart) (v : Value) : ExAt (W.setCell ⟨b.w, 0, none⟩ v) b p0 p1 q vm vi v vx := by
  obtain ⟨_, _, _, _, _⟩ := ha
  exact ⟨h.p0.set _ _ _ (by omega), h.p1.set _ _ _ (by omega), h.m.set _ _ _ (by omega), h.a1.set _ _ _ (by omega), h.a2.set _ _ _ (by omega), h.a3.set _ _ _ (by omega), h.a4.set _ _ _ (by omega), h.i.set _ _ _ (by omega), h.w.put _, h.x.set _ _ _ (by omega)⟩
theorem ExAt.setX (h : ExAt W b p0 p1 q vm vi vw vx) (ha : b.Apart) (v : Value) : ExAt (W.setCell ⟨b.x, 0, none⟩ v) b p0 p1 q vm vi vw v := by
  obtain ⟨_, _, _, _, _⟩ := ha
  exact ⟨h.p0.set _ _ _ (by omega), h.p1.set _ _ _ (by omega), h.m.set _ _ _ (by omega), h.a1.set _ _ _ (by omega), h.a2.set _ _ _ (by omega), h.a3.set _ _ _ (by omega), h.a4.set _ _ _ (by omega), h.i.set _ _ _ (by omega), h.w.set _ _ _ (by omega), h.x.put _⟩
theorem ExAt.setM (h : ExAt W b p0 p1 q vm vi vw vx) (ha : b.Apart) (v : Value) : ExAt (W.setCell ⟨b.m, 0, none⟩ v) b p0 p1 q v vi vw vx := by
  obtain ⟨_, _, _, _, _⟩ := ha
  exact ⟨h.p0.set _ _ _ (by omega), h.p1.set _ _ _ (by omega), h.m.put _, h.a1.set _ _ _ (by omega), h.a2.set _ _ _ (by omega), h.a3.set _ _ _ (by omega), h.a4.set _ _ _ (by omega), h.i.set _ _ _ (by omega), h.w.set _ _ _ (by omega), h.x.set _ _ _ (by omega)⟩
end
theorem OwnW.cap {w : World} {base : Nat} {f : Option Addr} {n c : Nat} {X : Nat → BitVec 64} (h : OwnW w base (.slice f n c) n X) : n ≤ c := by
  rcases h.2 with ⟨hv, rfl⟩ | ⟨g, cap, cur, hv, _, _, hnc, _⟩
  · omega
  · simp only [Value.slice.injEq] at hv
    omega
theorem CellsAt.set2 {w0 w : World} {f : Option Addr} {l : Nat} {C D : Nat → Value} (h0 : CellsAt w0 f l C) (h : CellsAt w f l D) (b o : Nat) (y : Value) (hb : w0.heap.size ≤ b) : CellsAt (w.setCell ⟨b, o, none⟩ y) f l D := by
  intro j hj
  obtain ⟨b', o', hf, hc⟩ := h j hj
  obtain ⟨b2, o2, hf2, hc2⟩ := h0 j hj
  rw [hf] at hf2
  simp at hf2
  obtain ⟨rfl, rfl⟩ := hf2
  have := cell_block hc2
  simp only at this
  exact ⟨b', o', hf, cell_set y (by omega) hc⟩
theorem CellsAt.under2 {B : Nat} {w0 w w' : World} {f : Option Addr} {l : Nat} {C D : Nat → Value} (h0 : CellsAt w0 f l C) (h : CellsAt w f l D) (hb : Below B w w') (hB : w0.heap.size ≤ B) : CellsAt w' f l D := by
  intro j hj
  obtain ⟨b', o', hf, hc⟩ := h j hj
  obtain ⟨b2, o2, hf2, hc2⟩ := h0 j hj
  rw [hf] at hf2
  simp at hf2
  obtain ⟨rfl, rfl⟩ := hf2
  have := cell_block hc2
  simp only at this
  exact ⟨b', o', hf, (hb.cell (p := ⟨b', o' + j, none⟩) (show b' < B by omega)).trans hc⟩

/-- What MemExact knows behind its switch: the memory that was told, x, is the one that is wanted, and nobody else has it. -/
structure Told (W : World) (w0 : World) (b : Blks) (p0 p1 : Value) (q : ActV) (fm : Option Addr) (lm cm : Nat) (fi : Option Addr) (ci : Nat) (Y : Nat → BitVec 64) (fw : Option Addr) (cw : Nat) (fx : Option Addr) (cx lx : Nat) (Z : Nat → BitVec 64) : Prop where
  below : Below w0.heap.size w0 W
  at_ : ExAt W b p0 p1 q (.slice fm lm cm) (.slice fi lm ci) (.slice fw lx cw) (.slice fx lx cx)
  words : WordsAt W fm lm Y
  input : WordsAt W fi lm Y
  short : lx ≤ 3000
  own : ∃ (B : Nat) (w1 : World), b.x < B ∧ w1.heap.size ≤ B ∧ B ≤ W.heap.size ∧ WordsAt w1 fm lm Y ∧ WordsAt w1 fi lm Y ∧ WordsAt w1 fw lx Z ∧ WordsAt W fw lx Z ∧ OwnW W B (.slice fx lx cx) lx Z

/-- What MemExact knows inside its switch. -/
structure Pre (V : World) (w0 w7 : World) (b : Blks) (p0 p1 : Value) (q : ActV) (fm : Option Addr) (lm cm : Nat) (fi : Option Addr) (ci : Nat) (Y : Nat → BitVec 64) (vw : Value) : Prop where
  apart : b.Apart
  below : Below w0.heap.size w0 V
  low : w0.heap.size ≤ b.s
  early : w7.heap.size ≤ b.w
  at_ : ExAt V b p0 p1 q (.slice fm lm cm) (.slice fi lm ci) vw (.slice none 0 0)
  words : WordsAt V fm lm Y
  input : WordsAt V fi lm Y
  nums : NumsAt V q.f q.l q.N
  words7 : WordsAt w7 fm lm Y
  input7 : WordsAt w7 fi lm Y
  nums7 : NumsAt w7 q.f q.l q.N
section
variable {V V' w0 w7 : World} {b : Blks} {p0 p1 : Value} {q : ActV} {fm : Option Addr} {lm cm : Nat} {fi : Option Addr} {ci : Nat} {Y : Nat → BitVec 64} {vw : Value}
theorem Pre.call (h : Pre V w0 w7 b p0 p1 q fm lm cm fi ci Y vw) (hb : Below V.heap.size V V') : Pre V' w0 w7 b p0 p1 q fm lm cm fi ci Y vw :=
  ⟨h.apart, bel_trans h.below hb, h.low, h.early, h.at_.below hb, h.words.below hb, h.input.below hb, h.nums.below hb, h.words7, h.input7, h.nums7⟩
theorem Pre.want (h : Pre V w0 w7 b p0 p1 q fm lm cm fi ci Y vw) (v : Value) : Pre (V.setCell ⟨b.w, 0, none⟩ v) w0 w7 b p0 p1 q fm lm cm fi ci Y v := by
  have ha := h.apart
  obtain ⟨_, _, _, _, _⟩ := ha
  have hl := h.low
  exact ⟨h.apart, h.below.setCell (by simp only; omega) v, h.low, h.early, h.at_.setW h.apart v, CellsAt.set2 h.words7 h.words _ _ _ h.early, CellsAt.set2 h.input7 h.input _ _ _ h.early, CellsAt.set2 h.nums7 h.nums _ _ _ h.early, h.words7, h.input7, h.nums7⟩
theorem ExAt.poke {W : World} {p0 p1 vm vi vx : Value} (h : ExAt W b p0 p1 q vm vi vw vx) (ha : b.Apart) (g o : Nat) (y : Value) (hg : b.x < g) : ExAt (W.setCell ⟨g, o, none⟩ y) b p0 p1 q vm vi vw vx := by
  obtain ⟨_, _, _, _, _⟩ := ha
  exact ⟨h.p0.set _ _ _ (by omega), h.p1.set _ _ _ (by omega), h.m.set _ _ _ (by omega), h.a1.set _ _ _ (by omega), h.a2.set _ _ _ (by omega), h.a3.set _ _ _ (by omega), h.a4.set _ _ _ (by omega), h.i.set _ _ _ (by omega), h.w.set _ _ _ (by omega), h.x.set _ _ _ (by omega)⟩
theorem Pre.poke (h : Pre V w0 w7 b p0 p1 q fm lm cm fi ci Y vw) (g o : Nat) (y : Value) (hg : b.x < g) : Pre (V.setCell ⟨g, o, none⟩ y).drew w0 w7 b p0 p1 q fm lm cm fi ci Y vw := by
  have ha := h.apart
  obtain ⟨_, _, _, _, _⟩ := ha
  have hl := h.low
  have he := h.early
  have h2 : Pre (V.setCell ⟨g, o, none⟩ y) w0 w7 b p0 p1 q fm lm cm fi ci Y vw :=
    ⟨h.apart, h.below.setCell (by simp only; omega) y, h.low, h.early, h.at_.poke h.apart g o y hg, CellsAt.set2 h.words7 h.words _ _ _ (by omega), CellsAt.set2 h.input7 h.input _ _ _ (by omega), CellsAt.set2 h.nums7 h.nums _ _ _ (by omega), h.words7, h.input7, h.nums7⟩
  exact h2.call (Below.drew (Below.refl _ _))
theorem Pre.told_nil (h : Pre V w0 w7 b p0 p1 q fm lm cm fi ci Y (.slice none 0 0)) : Told V w0 b p0 p1 q fm lm cm fi ci Y none 0 none 0 0 Y :=
  ⟨h.below, h.at_, h.words, h.input, by omega, ⟨V.heap.size, V, h.at_.x.lt, Nat.le_refl _, Nat.le_refl _, h.words, h.input, CellsAt.empty _ _ _, CellsAt.empty _ _ _, OwnW.nil _ _ _⟩⟩
theorem Pre.told_errx (h : Pre V w0 w7 b p0 p1 q fm lm cm fi ci Y (.slice none 0 0)) : Told (V.setCell ⟨b.x, 0, none⟩ (.slice none 0 0)) w0 b p0 p1 q fm lm cm fi ci Y none 0 none 0 0 Y := by
  have ha := h.apart
  obtain ⟨_, _, _, _, hwx⟩ := ha
  have hl := h.low
  have he := h.early
  have hx := h.at_.x.lt
  refine ⟨h.below.setCell (by simp only; omega) _, h.at_.setX h.apart _, CellsAt.set2 h.words7 h.words _ _ _ (by omega), CellsAt.set2 h.input7 h.input _ _ _ (by omega), by omega, ⟨V.heap.size, V, hx, Nat.le_refl _, by rw [size_set]; exact Nat.le_refl _, h.words, h.input, CellsAt.empty _ _ _, CellsAt.empty _ _ _, OwnW.nil _ _ _⟩⟩
theorem Pre.told_mem {w11 : World} {fw fx : Option Addr} {lx cw cx B0 : Nat} {Z : Nat → BitVec 64} (h : Pre V w0 w7 b p0 p1 q fm lm cm fi ci Y (.slice fw lx cw)) (hOw : OwnW V B0 (.slice fw lx cw) lx Z) (hB0 : b.x < B0) (hb : Below V.heap.size V w11) (hO : OwnW w11 V.heap.size (.slice fx lx cx) lx Z) (hs : lx ≤ 3000) :
    Told (w11.setCell ⟨b.x, 0, none⟩ (.slice fx lx cx)) w0 b p0 p1 q fm lm cm fi ci Y fw cw fx cx lx Z := by
  have h2 := h.call hb
  have ha := h.apart
  obtain ⟨_, _, _, _, hwx⟩ := ha
  have hl := h.low
  have he := h.early
  have hx := h.at_.x.lt
  refine ⟨h2.below.setCell (by simp only; omega) _, h2.at_.setX h.apart _, CellsAt.set2 h.words7 h2.words _ _ _ (by omega), CellsAt.set2 h.input7 h2.input _ _ _ (by omega), hs, ⟨V.heap.size, V, hx, Nat.le_refl _, by rw [size_set]; exact hb.size, h.words, h.input, hOw.words, ?_, ?_⟩⟩
  · exact ((hOw.below hb).other b.x 0 _ hB0).words
  · exact hO.other b.x 0 _ hx
end
end Go.Proofs.Ytpnkhijbfnnggaa
