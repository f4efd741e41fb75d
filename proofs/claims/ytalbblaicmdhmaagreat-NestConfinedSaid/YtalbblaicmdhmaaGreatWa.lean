/- Stage 5: what the program's calls are held against; the law's small calls; its argument, opened. -/
import Derived.Test.YtalbblaicmdhmaaGreatWr
import Derived.Test.YtalbblaicmdhmaaGreatEq
import Derived.Test.YtalbblaicmdhmaaGreatSq
import Derived.Test.YtalbblaicmdhmaaGreatMemD
set_option linter.all false
namespace Go.Proofs.YtalbblaicmdhmaaGreat
open Go.ChangeShapes Go.WideShapes Go.ChangeAt Go.RowKit Go.Deep

/-- One descriptor: the answer, or the error. -/
def tableA (l : Nat) (X : Nat → BitVec 64) (st lv fr pg : Int) : Dsc × Int :=
  if okM l && (placeB st lv && numB pg 4095) then (if numB fr ((l : Int) / 8 - 1) then (tblD X st lv fr pg, 0) else (dz, 2)) else (dz, 1)
/-- A walk: the answer, or the error. -/
def walkMay (l : Nat) (st fr pg : Int) : Bool := okM l && (decide (st = 1 ∨ st = 2) && (numB fr 4095 && numB pg 4095))
def walkA (l : Nat) (X : Nat → BitVec 64) (st fr pg : Int) : (Hit × Flt × List Int) × Int :=
  if walkMay l st fr pg then (walkD l X st fr pg, 0) else ((hit0, flt0, []), 1)
def TableC : Prop := ∀ (f : Option Addr) (l c : Nat) (X : Nat → BitVec 64) (st lv fr pg : Int) (w : World), l ≤ 1000000 → l ≤ c → WordsAt w f l X →
  Calls Tryz.prog 51 #[.agg #[.slice f l c], .int .i64 st, .int .i64 lv, .int .i64 fr, .int .i64 pg] w fun e w' => e = .returned (.tuple #[dscV (tableA l X st lv fr pg).1, .int .i64 (tableA l X st lv fr pg).2]) ∧ Below w.heap.size w w'
def Walk4End (w : World) (q : (Hit × Flt × List Int) × Int) (e : Ending) (w' : World) : Prop :=
  ∃ f' c', e = .returned (.tuple #[hitV q.1.1, fltV q.1.2.1, .slice f' q.1.2.2.length c', .int .i64 q.2]) ∧ OwnI w' w.heap.size (.slice f' q.1.2.2.length c') q.1.2.2 ∧ Below w.heap.size w w'
def WalkC : Prop := ∀ (f : Option Addr) (l c : Nat) (X : Nat → BitVec 64) (st fr pg : Int) (w : World), l ≤ 1000000 → l ≤ c → WordsAt w f l X →
  Calls Tryz.prog 64 #[.agg #[.slice f l c], .int .i64 st, .int .i64 fr, .int .i64 pg] w (Walk4End w (walkA l X st fr pg))

theorem dsc_dz : dscV dz = .agg #[.int .i64 0, .int .i64 0, .bool false, .bool false, .bool false, .bool false, .bool false, .int .i64 0, .int .i64 0] := rfl

def heavy5 (l n : Nat) : Bool := decide (2000 < l) || decide (500 < n)
theorem heavy5_no {l n : Nat} (h : heavy5 l n = false) : l ≤ 2000 ∧ n ≤ 500 := by
  unfold heavy5 at h
  simp at h
  omega
theorem heavy5_any (f g : Option Addr) (l c n d : Nat) (fr : Int) (w : World) (hl : l ≤ 1000000000000000) (hn : n ≤ 1000000000000000) :
    Calls Tryz.prog 4 #[.agg #[.slice f l c, .int .i64 fr, .slice g n d]] w fun e w' => e = .returned (.bool (heavy5 l n)) ∧ Below w.heap.size w w' := by
  by_cases h : 2000 < l
  · have hd : decide ((2000 : Int) < (l : Int)) = true := decide_eq_true (by omega)
    have he : heavy5 l n = true := by unfold heavy5; simp [h]
    have HE := Lib.hid he
    clear he
    go_enter Tryz.func4, Tryz.ntmps4
    go_wp2
    go_ret
    rw [HE.out]
    exact ⟨rfl, by go_grown⟩
  · have hd : decide ((2000 : Int) < (l : Int)) = false := decide_eq_false (by omega)
    have he : heavy5 l n = decide ((500 : Int) < (n : Int)) := by unfold heavy5; simp [h]; omega
    have HE := Lib.hid he
    clear he
    go_enter Tryz.func4, Tryz.ntmps4
    go_wp2
    go_ret
    rw [HE.out]
    exact ⟨ret_bool (by simp), by go_grown⟩
theorem rmemB (f : Option Addr) (l c : Nat) (w : World) :
    Calls Tryz.prog 14 #[.agg #[.slice f l c]] w fun e w' => e = .returned (.bool (okM l)) ∧ Below w.heap.size w w' :=
  (rmem_any f l c w).mono fun _ _ h => ⟨h.1, by rw [h.2]; exact bel_alloc (Below.refl _ _) _⟩

/-- What is asked of stage 5's laws. -/
structure Q5 where
  f : Option Addr
  l : Nat
  c : Nat
  X : Nat → BitVec 64
  fr : Int
  g : Option Addr
  n : Nat
  d : Nat
  P : Nat → Int
def ask5V (q : Q5) : Array Value := #[.slice q.f q.l q.c, .int .i64 q.fr, .slice q.g q.n q.d]
/-- What memory has of it. -/
structure Ok5 (W : World) (q : Q5) : Prop where
  words : WordsAt W q.f q.l q.X
  nums : NumsAt W q.g q.n q.P
  l1 : q.l ≤ 1000000000000000
  n1 : q.n ≤ 1000000000000000
  lc : q.l ≤ q.c
  nd : q.n ≤ q.d
  fr1 : InI q.fr
theorem Ok5.below {W w : World} {q : Q5} (h : Ok5 W q) (hb : Below W.heap.size W w) : Ok5 w q := ⟨h.words.below hb, h.nums.below hb, h.l1, h.n1, h.lc, h.nd, h.fr1⟩
section
variable {H : Type} {enc : TypeId × Value → H} {w : World} {base : Nat} {held : Bool}
theorem c_words : Tryz.prog.cellsOf 22 = 1 := by kernel_rfl
theorem c_nums : Tryz.prog.cellsOf 25 = 1 := by kernel_rfl
theorem mem_lite {n : Nat} {cs : List Value} {y : DataW H × List MemPlace} (hlen : cs.length = 1) (h : DataW.trod enc Tryz.prog w base (fun _ => true) held n 24 cs = some y) (hz : Lite Tryz.prog 24 y.1) :
    ∃ (f : Option Addr) (l c : Nat) (X : Nat → BitVec 64), cs = [.slice f l c] ∧ l ≤ 1000000000000000 ∧ l ≤ c ∧ WordsAt w f l X := by
  match cs, hlen with
  | [v0], _ =>
    obtain ⟨_, _, t0, z0⟩ := part_lite Tryz.underlying24 h hz 0 0 1 22 ⟨_, rfl, rfl, rfl⟩ c_words
    obtain ⟨f, l, c, X, h0, h1, h2, h3⟩ := words_cap t0 z0
    exact ⟨f, l, c, X, by rw [h0], h1, h2, h3⟩
theorem ask5_lite {n : Nat} {cs : List Value} {y : DataW H × List MemPlace} (hlen : cs.length = 3) (h : DataW.trod enc Tryz.prog w base (fun _ => true) held n 27 cs = some y) (hz : Lite Tryz.prog 27 y.1) :
    ∃ q : Q5, cs = (ask5V q).toList ∧ Ok5 w q := by
  match cs, hlen with
  | [v0, v1, v2], _ =>
    obtain ⟨_, _, t0, z0⟩ := part_lite Tryz.underlying27 h hz 0 0 1 24 ⟨_, rfl, rfl, rfl⟩ cells_mem
    obtain ⟨_, _, t1, _⟩ := part_lite Tryz.underlying27 h hz 1 1 1 3 ⟨_, rfl, rfl, rfl⟩ c_int
    obtain ⟨_, _, t2, z2⟩ := part_lite Tryz.underlying27 h hz 2 2 1 25 ⟨_, rfl, rfl, rfl⟩ c_nums
    obtain ⟨f, l, c, X, h0, a1, a2, a3⟩ := mem_lite rfl t0 z0
    obtain ⟨fr, h1, b1⟩ := int_cellI t1
    obtain ⟨g, m, d, P, h2, c1, c2, c3⟩ := nums_cap t2 z2
    simp at h0 h1 h2
    exact ⟨⟨f, l, c, X, fr, g, m, d, P⟩, by rw [h0, h1, h2]; rfl, a3, c3, a1, c1, a2, c2, b1⟩
end
theorem c_ask5 : Tryz.prog.cellsOf 27 = 3 := by kernel_rfl

theorem walk_zero : walkA 8 (fun _ => 0#64) 2 0 5 = ((hit0, ⟨2, 2, 0, false, 5⟩, [0]), 0) := by decide +kernel
theorem ints_new (w : World) (L : List Int) (cs : Array Value) (b : Nat) (hb : w.heap.size = b) (hl : L.length ≤ 1000000) (hc : cs.toList = icells L) : IntsAt (w.alloc (.cells cs 3)) (some ⟨b, 0, none⟩) L := by
  subst hb
  exact (OwnI.made w w.heap.size L cs L.length (Nat.le_refl _) rfl hl hc).ints.2
theorem make8 (w : World) (n : Nat) (h : n ≤ 100000) : ∃ W2, (Instr.makeSlice 22 (.int .i64 (n : Int)) (.int .i64 (n : Int))).run Tryz.prog w = .ok (.slice (some ⟨w.heap.size, 0, none⟩) n n) W2 ∧ WordsAt W2 (some ⟨w.heap.size, 0, none⟩) n (fun _ => 0#64) ∧ Below w.heap.size w W2 := by
  obtain ⟨i0, hi, hz0, hz1, hz2⟩ := info_parts infoW
  obtain ⟨W2, hrun, hown, hgr⟩ := run_make_full (P := Tryz.prog) w w.heap.size 22 85 i0 _ 1 Tryz.underlying22 hi hz0 hz1 .i64 .i64 n (by rw [hz2]; omega) (by unfold maxLen; omega) (Nat.le_refl _)
  have hO : OwnW W2 w.heap.size (.slice (some ⟨w.heap.size, 0, none⟩) n n) n (fun _ => 0#64) := by
    unfold OwnW
    rw [← zeros_cells]
    rw [Nat.mul_one] at hown
    exact hown
  exact ⟨W2, hrun, hO.words, (Below.refl w.heap.size w).grown hgr (Nat.le_refl _) (by simp)⟩
end Go.Proofs.YtalbblaicmdhmaaGreat
