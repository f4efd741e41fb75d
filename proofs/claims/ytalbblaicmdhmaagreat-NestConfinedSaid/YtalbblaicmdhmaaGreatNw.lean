/- Stage 7: what the program's calls are held against; the argument, opened; the law's small calls. -/
import Derived.Test.YtalbblaicmdhmaaGreatNi
import Derived.Test.YtalbblaicmdhmaaGreatWa
import Derived.Deep.CutBlock
set_option linter.all false
namespace Go.Proofs.YtalbblaicmdhmaaGreat
open Go.ChangeShapes Go.WideShapes Go.ChangeAt Go.RowKit Go.Deep

def mayN (l : Nat) (tf pg acc : Int) : Bool := okM l && (numB tf 4095 && (numB pg 4095 && numB acc 2))
/-- Stage 2 alone: the answer, or the error. -/
def midA (l : Nat) (X : Nat → BitVec 64) (on : Bool) (tf pg acc : Int) : (Hit × Flt × List Int) × Int :=
  if mayN l tf pg acc = true then (midD l X on tf pg acc, 0) else ((hit0, flt0, []), 1)
/-- Both stages: the answer, or the error. -/
def transA (l : Nat) (X : Nat → BitVec 64) (on1 : Bool) (of1 : Int) (on2 : Bool) (tf pg acc : Int) : (Hit × Flt × List Int) × Int :=
  if (mayN l tf pg acc && numB of1 4095) = true then (transD l X on1 of1 on2 tf pg acc, 0) else ((hit0, flt0, []), 1)
def TransC : Prop := ∀ (f : Option Addr) (l c : Nat) (X : Nat → BitVec 64) (on1 : Bool) (of1 og1 : Int) (on2 : Bool) (tf tg pg acc : Int) (w : World), l ≤ 1000000 → l ≤ c → WordsAt w f l X →
  Calls Tryz.prog 8 #[.agg #[.slice f l c], .agg #[.bool on1, .int .i64 of1, .int .i64 og1], .agg #[.bool on2, .int .i64 tf, .int .i64 tg], .int .i64 pg, .int .i64 acc] w (Walk4End w (transA l X on1 of1 on2 tf pg acc))
theorem midA_no {l : Nat} {X : Nat → BitVec 64} {on : Bool} {tf pg acc : Int} (h : mayN l tf pg acc = false) : midA l X on tf pg acc = ((hit0, flt0, []), 1) := by unfold midA; rw [h]; rfl
theorem midA_yes {l : Nat} {X : Nat → BitVec 64} {on : Bool} {tf pg acc : Int} (h : mayN l tf pg acc = true) : midA l X on tf pg acc = (midD l X on tf pg acc, 0) := by unfold midA; rw [h]; rfl
theorem transA_no {l : Nat} {X : Nat → BitVec 64} {on1 : Bool} {of1 : Int} {on2 : Bool} {tf pg acc : Int} (h : (mayN l tf pg acc && numB of1 4095) = false) : transA l X on1 of1 on2 tf pg acc = ((hit0, flt0, []), 1) := by unfold transA; rw [h]; rfl
theorem transA_yes {l : Nat} {X : Nat → BitVec 64} {on1 : Bool} {of1 : Int} {on2 : Bool} {tf pg acc : Int} (h : (mayN l tf pg acc && numB of1 4095) = true) : transA l X on1 of1 on2 tf pg acc = (transD l X on1 of1 on2 tf pg acc, 0) := by unfold transA; rw [h]; rfl
theorem mayN_iff {l : Nat} {tf pg acc : Int} : mayN l tf pg acc = true ↔ okM l = true ∧ (0 ≤ tf ∧ tf ≤ 4095) ∧ (0 ≤ pg ∧ pg ≤ 4095) ∧ 0 ≤ acc ∧ acc ≤ 2 := by
  simp only [mayN, Bool.and_eq_true, numB_iff]
theorem transS_len {M : Int → Int → Hit × Flt × List Int} {T : Int → Int → Dsc} {pg acc : Int} (hM : ∀ m a, 0 ≤ m → (M m a).2.2.length ≤ 4) (hT : ∀ lv f, 0 ≤ (T lv f).f) :
    ∀ (n : Nat) (lv mid : Int) (R : List Int), 0 ≤ mid → (transS M T pg acc n lv mid R).2.2.length ≤ R.length + 5 * n + 4
  | 0, _, _, R, _ => by simp [transS]
  | n + 1, lv, mid, R, hm => by
    rw [transS]
    have h1 := hM mid 0 hm
    have hc := cov_pos lv
    have hf := hT lv (M mid 0).1.f
    have h2 := hM ((T lv (M mid 0).1.f).f + pg % cov lv) acc (by have := Int.emod_nonneg pg (show cov lv ≠ 0 by omega); omega)
    have ih := transS_len (pg := pg) (acc := acc) hM hT n (lv + 1) (T lv (M mid 0).1.f).f (R ++ (M mid 0).2.2 ++ [(M mid 0).1.f]) hf
    simp only [List.length_append, List.length_cons, List.length_nil] at ih
    split
    · simp only [List.length_append]; omega
    · split
      · omega
      · split
        · simp only [List.length_append, List.length_cons, List.length_nil]; omega
        · split
          · simp only [List.length_append, List.length_cons, List.length_nil]; omega
          · split <;> (simp only [List.length_append, List.length_cons, List.length_nil]; omega)
theorem midD_len (l : Nat) (X : Nat → BitVec 64) (on : Bool) (tf : Int) (t0 : 0 ≤ tf) (m a : Int) (m0 : 0 ≤ m) : (midD l X on tf m a).2.2.length ≤ 4 := (mid_cases l X on tf m a t0 m0).1
theorem transD_len (l : Nat) (X : Nat → BitVec 64) (on1 : Bool) (of1 : Int) (on2 : Bool) (tf pg acc : Int) (o0 : 0 ≤ of1) (t0 : 0 ≤ tf) (p0 : 0 ≤ pg) : (transD l X on1 of1 on2 tf pg acc).2.2.length ≤ 24 := by
  unfold transD
  split
  · split
    · exact Nat.le_trans (midD_len l X on2 tf t0 pg acc p0) (by decide)
    · exact Nat.le_trans (midD_len l X on2 tf t0 pg acc p0) (by decide)
  · exact transS_len (fun m a m0 => midD_len l X on2 tf t0 m a m0) (fun lv f => (tbl_frame X 1 lv f pg).1) 4 0 of1 [] o0
theorem lnum7_any (n : Int) (w : World) :
    Calls Tryz.prog 10 #[.int .i64 n] w fun e w' => e = .returned (.int .i64 n) ∧ w = w' := by
  go_enter Tryz.func10, Tryz.ntmps10
  go_wp2
  go_ret
  exact ⟨rfl, rfl⟩
theorem may7_any (f g : Option Addr) (l c n d : Nat) (fr : Int) (on1 : Bool) (of1 og1 : Int) (on2 : Bool) (tf tg ac pg acc : Int) (w : World) :
    Calls Tryz.prog 5 #[.agg #[.slice f l c, .int .i64 fr, .slice g n d, .bool on1, .int .i64 of1, .int .i64 og1, .bool on2, .int .i64 tf, .int .i64 tg, .int .i64 ac], .int .i64 pg, .int .i64 acc] w fun e w' => e = .returned (.bool (mayN l tf pg acc)) ∧ Below w.heap.size w w' := by
  have H1 := Lib.hid (fun W => rmemB f l c W)
  have H2 := Lib.hid (fun W => page_any tf W)
  have H3 := Lib.hid (fun W => page_any pg W)
  have H4 := Lib.hid (fun W => acc_any acc W)
  have X0 := Lib.hid (BoxAt.new w #[.slice f l c, .int .i64 fr, .slice g n d, .bool on1, .int .i64 of1, .int .i64 og1, .bool on2, .int .i64 tf, .int .i64 tg, .int .i64 ac] 31)
  have B0 := Lib.hid (bel_alloc (Below.refl w.heap.size w) (.cells #[.slice f l c, .int .i64 fr, .slice g n d, .bool on1, .int .i64 of1, .int .i64 og1, .bool on2, .int .i64 tf, .int .i64 tg, .int .i64 ac] 31))
  unfold mayN
  generalize okM l = a at *
  generalize numB tf 4095 = b at *
  generalize numB pg 4095 = e at *
  generalize numB acc 2 = h at *
  cases a
  · go_enter Tryz.func5, Tryz.ntmps5
    go_wp2_with fail
    refine (H1.out _).mono ?_
    rintro e1 w1 ⟨rfl, hb1⟩
    have X1 := X0.out.below hb1
    have B1 := Lib.hid (bel_trans B0.out hb1)
    have x7 := X1.get 7 (.int .i64 tf) rfl
    clear X1 hb1
    go_wp2
    go_ret
    exact ⟨rfl, B1.out⟩
  · skip
    cases b
    · go_enter Tryz.func5, Tryz.ntmps5
      go_wp2_with fail
      refine (H1.out _).mono ?_
      rintro e1 w1 ⟨rfl, hb1⟩
      have X1 := X0.out.below hb1
      have B1 := Lib.hid (bel_trans B0.out hb1)
      have x7 := X1.get 7 (.int .i64 tf) rfl
      clear X1 hb1
      go_wp2_with fail
      refine (H2.out _).mono ?_
      rintro e2 w2 ⟨rfl, rfl⟩
      go_wp2
      go_ret
      exact ⟨rfl, B1.out⟩
    · skip
      cases e
      · go_enter Tryz.func5, Tryz.ntmps5
        go_wp2_with fail
        refine (H1.out _).mono ?_
        rintro e1 w1 ⟨rfl, hb1⟩
        have X1 := X0.out.below hb1
        have B1 := Lib.hid (bel_trans B0.out hb1)
        have x7 := X1.get 7 (.int .i64 tf) rfl
        clear X1 hb1
        go_wp2_with fail
        refine (H2.out _).mono ?_
        rintro e2 w2 ⟨rfl, rfl⟩
        go_wp2_with fail
        refine (H3.out _).mono ?_
        rintro e3 w3 ⟨rfl, rfl⟩
        go_wp2
        go_ret
        exact ⟨rfl, B1.out⟩
      · go_enter Tryz.func5, Tryz.ntmps5
        go_wp2_with fail
        refine (H1.out _).mono ?_
        rintro e1 w1 ⟨rfl, hb1⟩
        have X1 := X0.out.below hb1
        have B1 := Lib.hid (bel_trans B0.out hb1)
        have x7 := X1.get 7 (.int .i64 tf) rfl
        clear X1 hb1
        go_wp2_with fail
        refine (H2.out _).mono ?_
        rintro e2 w2 ⟨rfl, rfl⟩
        go_wp2_with fail
        refine (H3.out _).mono ?_
        rintro e3 w3 ⟨rfl, rfl⟩
        go_wp2_with fail
        refine (H4.out _).mono ?_
        rintro e4 w4 ⟨rfl, rfl⟩
        go_wp2
        go_ret
        exact ⟨rfl, B1.out⟩
/-- What is asked of stage 7's laws. -/
structure Q7 where
  a : Q5
  on1 : Bool
  of1 : Int
  og1 : Int
  on2 : Bool
  tf : Int
  tg : Int
  ac : Int
def ask7V (q : Q7) : Array Value := #[.slice q.a.f q.a.l q.a.c, .int .i64 q.a.fr, .slice q.a.g q.a.n q.a.d, .bool q.on1, .int .i64 q.of1, .int .i64 q.og1, .bool q.on2, .int .i64 q.tf, .int .i64 q.tg, .int .i64 q.ac]
section
variable {H : Type} {enc : TypeId × Value → H} {w : World} {base : Nat} {held : Bool}
theorem c_root7 : Tryz.prog.cellsOf 29 = 3 := by kernel_rfl
theorem c_ask7 : Tryz.prog.cellsOf 31 = 10 := by kernel_rfl
theorem root_cells7 {n : Nat} {cs : List Value} {y : DataW H × List MemPlace} (hlen : cs.length = 3) (h : DataW.trod enc Tryz.prog w base (fun _ => true) held n 29 cs = some y) :
    ∃ (o : Bool) (f t : Int), cs = [.bool o, .int .i64 f, .int .i64 t] := by
  match cs, hlen with
  | [v0, v1, v2], _ =>
    obtain ⟨_, _, t0⟩ := part_of Tryz.underlying29 h 0 0 1 4 ⟨_, rfl, rfl, rfl⟩ c_bool
    obtain ⟨_, _, t1⟩ := part_of Tryz.underlying29 h 1 1 1 3 ⟨_, rfl, rfl, rfl⟩ c_int
    obtain ⟨_, _, t2⟩ := part_of Tryz.underlying29 h 2 2 1 3 ⟨_, rfl, rfl, rfl⟩ c_int
    obtain ⟨o, h0⟩ := bool_cells t0
    obtain ⟨f, h1, _⟩ := int_cellI t1
    obtain ⟨t, h2, _⟩ := int_cellI t2
    simp at h0 h1 h2
    exact ⟨o, f, t, by rw [h0, h1, h2]⟩
theorem ask7_lite {n : Nat} {cs : List Value} {y : DataW H × List MemPlace} (hlen : cs.length = 10) (h : DataW.trod enc Tryz.prog w base (fun _ => true) held n 31 cs = some y) (hz : Lite Tryz.prog 31 y.1) :
    ∃ q : Q7, cs = (ask7V q).toList ∧ Ok5 w q.a := by
  match cs, hlen with
  | [v0, v1, v2, v3, v4, v5, v6, v7, v8, v9], _ =>
    obtain ⟨_, _, t0, z0⟩ := part_lite Tryz.underlying31 h hz 0 0 3 27 ⟨_, rfl, rfl, rfl⟩ c_ask5
    obtain ⟨_, _, t1, _⟩ := part_lite Tryz.underlying31 h hz 1 3 3 29 ⟨_, rfl, rfl, rfl⟩ c_root7
    obtain ⟨_, _, t2, _⟩ := part_lite Tryz.underlying31 h hz 2 6 3 29 ⟨_, rfl, rfl, rfl⟩ c_root7
    obtain ⟨_, _, t3, _⟩ := part_lite Tryz.underlying31 h hz 3 9 1 3 ⟨_, rfl, rfl, rfl⟩ c_int
    obtain ⟨a, h0, k0⟩ := ask5_lite rfl t0 z0
    obtain ⟨o1, f1, g1, h1⟩ := root_cells7 rfl t1
    obtain ⟨o2, f2, g2, h2⟩ := root_cells7 rfl t2
    obtain ⟨x3, h3, _⟩ := int_cellI t3
    simp [ask5V] at h0 h1 h2 h3
    obtain ⟨e0, e1, e2⟩ := h0
    obtain ⟨e3, e4, e5⟩ := h1
    obtain ⟨e6, e7, e8⟩ := h2
    exact ⟨⟨a, o1, f1, g1, o2, f2, g2, x3⟩, by rw [e0, e1, e2, e3, e4, e5, e6, e7, e8, h3]; rfl, k0⟩
end
theorem trans_zero : transA 16 (fun _ => 0#64) false 0 false 0 1 0 = ((⟨1, 1, ⟨true, true, true, true, false, 0⟩, 3⟩, flt0, []), 0) := by decide +kernel
set_option maxRecDepth 100000 in
theorem wakes7_any (PW : TransC) (w : World) :
    Calls Tryz.prog 13 #[] w fun e w' => e = .returned (.bool true) ∧ Below w.heap.size w w' := by
  obtain ⟨W2, hrun, hX, hb2⟩ := make8 w 16 (by decide)
  rw [show ((16 : Nat) : Int) = 16 from rfl] at hrun
  have HP := PW (some ⟨w.heap.size, 0, none⟩) 16 16 (fun _ => 0#64) false 0 0 false 0 0 1 0 W2 (by decide) (by decide) hX
  rw [trans_zero] at HP
  have HP := Lib.hid HP
  have HB := Lib.hid hb2
  clear PW hX hb2
  go_enter Tryz.func13, Tryz.ntmps13
  go_wp2_with fail
  refine HP.out.mono ?_
  rintro e w1 ⟨f', c', rfl, hO, hb1⟩
  clear hrun
  have B1 := Lib.hid (bel_trans HB.out hb1)
  clear hO hb1
  unfold fltV hitV flt0
  simp only [List.length_nil]
  have hq2 : eqF ⟨0, 0, 0, false, 0⟩ ⟨0, 0, 0, false, 0⟩ = true := eqF_self _
  go_wp2_with fail
  refine (lnum7_any _ _).mono ?_
  rintro e w2 ⟨rfl, rfl⟩
  go_wp2
  go_ret
  exact ⟨rfl, bel_alloc (bel_alloc B1.out _) _⟩
end Go.Proofs.YtalbblaicmdhmaaGreat
