/- Contracts: Copy of package mem; the errors of Zero and Copy. -/
import Derived.Test.YtpnkhijbfnnggaaMemF
namespace Go.Proofs.Ytpnkhijbfnnggaa
open Go.ChangeShapes Go.WideShapes Go.ChangeAt Go.RowKit Go.Deep

/-- Nothing but one block has changed. -/
structure Only (g : Nat) (w w' : World) : Prop where
  os : w'.os = w.os
  tape : w'.tape = w.tape
  output : w'.output = w.output
  size : w'.heap.size = w.heap.size
  block : ∀ k, k ≠ g → w'.heap[k]? = w.heap[k]?
theorem Loc.only {g : Nat} {w w' : World} {b o : Nat} {x : Value} (h : Loc w b o x) (hw : Only g w w') (hne : b ≠ g) : Loc w' b o x :=
  ⟨(World.cell?_of_block (a := ⟨b, o, none⟩) (hw.block b hne)).trans h.cell, (World.frozen?_of_block (a := ⟨b, o, none⟩) (hw.block b hne)).trans h.free⟩
theorem below_only {B g : Nat} {a w w' : World} (h : Below B a w) (hw : Only g w w') (hB : B ≤ g) : Below B a w' :=
  h.trans ⟨hw.os, hw.tape, hw.output, by rw [hw.size]; exact Nat.le_refl _, fun k hk => hw.block k (by omega)⟩

/-- Eight words go over. -/
def movV (X : Nat → BitVec 64) (s d n : Nat) : Nat → BitVec 64 := fun i => if d ≤ i ∧ i < d + n then X (s + (i - d)) else X i
theorem movV_zero (X : Nat → BitVec 64) (s d : Nat) : movV X s d 0 = X := by
  funext i; unfold movV; rw [if_neg (by omega)]
theorem movV_succ (X : Nat → BitVec 64) (s d n : Nat) : upd (movV X s d n) (d + n) (X (s + n)) = movV X s d (n + 1) := by
  funext i; unfold upd movV
  by_cases h : i = d + n
  · rw [if_pos h, if_pos (by omega), show i - d = n from by omega]
  · rw [if_neg h]
    by_cases k : d ≤ i ∧ i < d + n
    · rw [if_pos k, if_pos (by omega)]
    · rw [if_neg k, if_neg (by omega)]

theorem infoW1 : (Try.prog.info? 30).map (·.size) = some 1 := by kernel_rfl

theorem OwnW.copied {w : World} {base g l c : Nat} {X : Nat → BitVec 64} (h : OwnW w base (.slice (some ⟨g, 0, none⟩) l c) l X) (s d cd cs : Nat) (hs : s + 8 ≤ l) (hd : d + 8 ≤ l) :
    ∃ w', (∀ ty, (Builtin.copy_ #[22, 22] ty #[.slice (some ⟨g, d, none⟩) 8 cd, .slice (some ⟨g, s, none⟩) 8 cs]).run Try.prog w = .ok (.int .i64 8) w') ∧ OwnW w' base (.slice (some ⟨g, 0, none⟩) l c) l (movV X s d 8) ∧ Only g w w' := by
  have hcell := h.pos (by omega)
  obtain ⟨g', c', hv, _, _, _, hcc⟩ := hcell
  simp at hv
  obtain ⟨rfl, rfl⟩ := hv
  rcases h.2 with ⟨h', _⟩ | ⟨g', cap', cur, h', hbg, hg, hnc, hcm, hcs, htake⟩
  · simp at h'
  · simp only [Value.slice.injEq, Option.some.injEq, Addr.mk.injEq, and_true, true_and] at h'
    obtain ⟨rfl, rfl⟩ := h'
    have hlen : (wcells (fun j => X (s + j)) 8).length = 8 := wcells_length _ _
    have hrun := fun ty => run_copy_row (P := Try.prog) w 22 22 ty 30 g d 8 cd ⟨g, s, none⟩ 8 cs cur 30 (wcells (fun j => X (s + j)) 8) Try.underlying22 infoW1 hg (by rw [hlen]; rfl)
      (by
        intro j v hv
        have hj : j < 8 := by
          have := (List.getElem?_eq_some_iff.1 hv).1
          rwa [wcells_length] at this
        rw [wcells_get _ 8 j hj] at hv
        obtain rfl := Option.some.inj hv
        rw [add_none]
        exact hcc (s + j) (by omega)) (by rw [hlen, hcs]; omega) (wcells_one _ _)
    rw [hlen] at hrun
    refine ⟨_, hrun, ⟨h.1.trans rfl |> fun _ => by rw [wcells_length]; omega, .inr ⟨g, c, _, rfl, hbg, setRow_heap w g _ _ _ _ hg, hnc, hcm, ?_, ?_⟩⟩, ?_⟩
    · have : d + 8 ≤ cur.size := by omega
      simp [wcells_length]
      omega
    · rw [Nat.mul_one] at htake ⊢
      have htl : cur.toList.length = c := by simp [hcs]
      apply List.ext_getElem?
      intro i
      have hi : ∀ i, i < l → cur.toList[i]? = some (.int .u64 (u (X i))) := by
        intro i hil
        have := congrArg (fun L => L[i]?) htake
        rw [List.getElem?_take, if_pos hil, wcells_get X l i hil] at this
        exact this
      by_cases hil : i < l
      · rw [wcells_get _ l i hil, List.getElem?_take, if_pos hil]
        simp only [List.append_assoc]
        unfold movV
        by_cases h1 : i < d
        · rw [List.getElem?_append_left (by simp; omega), List.getElem?_take, if_pos h1, hi i hil, if_neg (by omega)]
        · by_cases h2 : i < d + 8
          · rw [List.getElem?_append_right (by simp; omega), List.getElem?_append_left (by simp [wcells_length]; omega), if_pos (by omega)]
            rw [show i - (List.take d cur.toList).length = i - d from by simp; omega, wcells_get _ 8 (i - d) (by omega)]
          · rw [List.getElem?_append_right (by simp; omega), List.getElem?_append_right (by simp [wcells_length]; omega), if_neg (by omega)]
            rw [List.getElem?_drop, ← hi i hil]
            congr 1
            simp [wcells_length]
            omega
      · rw [wcells_none _ l i (by omega), List.getElem?_take, if_neg hil]
    · exact ⟨rfl, rfl, rfl, by simp, fun k hk => setRow_other w g k _ hk⟩

theorem cell_only {g : Nat} {w w' : World} {b o : Nat} {x : Value} (hw : Only g w w') (hne : b ≠ g) (h : w.cell? ⟨b, o, none⟩ = some x) : w'.cell? ⟨b, o, none⟩ = some x :=
  (World.cell?_of_block (a := ⟨b, o, none⟩) (hw.block b hne)).trans h

theorem step_copyW {ops : Array Oper} {o : Oper} {a : Act} {w w' : World} {K : Act → World → Prop} {Q : Exit → Act → World → Prop} {E : Prop} (hgd : o.guard = none) (d s : Operand)
    (ho : o.op = .call { callee := .builtin .copy, args := #[d, s], argTypes := #[22, 22] }) (vd vs : Value) (hd : a.eval d = vd) (hs : a.eval s = vs)
    (hrun : ∀ ty, (Builtin.copy_ #[22, 22] ty #[vd, vs]).run Try.prog w = .ok (.int .i64 8) w') (h : K (a.put o.dst (.int .i64 8)) w') :
    if Region.wanted o (yielded ops a.tmps) = true then Oper.wp Try.prog o a w K Q else E := by
  have hw : Region.wanted o (yielded ops a.tmps) = true := by simp [Region.wanted, hgd]
  rw [if_pos hw]
  unfold Oper.wp
  simp [execOp, ho, resolve, invoke, builtin, hd, hs, hrun, Result.andThen]
  exact h

/-- The words with one frame's in another. -/
def cpV (X : Nat → BitVec 64) (a b : Int) : Nat → BitVec 64 := movV X (a * 8).toNat (b * 8).toNat 8
def pairN (a b : Int) : Nat → Int := fun j => if j = 0 then a else b

set_option maxRecDepth 100000 in
set_option maxHeartbeats 800000 in
theorem copy_ok (f : Option Addr) (l c : Nat) (X : Nat → BitVec 64) (x y : Int) (w : World) (hX : WordsAt w f l X) (hM : okM l = true) (hA : allF l (pairN x y) 2) :
    Calls Try.prog 24 #[.agg #[.slice f l c], .int .i64 x, .int .i64 y] w fun e w' => ∃ f' c', e = .returned (.tuple #[.agg #[.slice f' l c'], .int .i64 0]) ∧ OwnW w' w.heap.size (.slice f' l c') l (cpV X x y) ∧ Below w.heap.size w w' := by
  obtain ⟨l1, l2, l3⟩ := okM_true hM
  obtain ⟨x0, x1⟩ := hA 0 (by omega)
  obtain ⟨y0, y1⟩ := hA 1 (by omega)
  simp only [pairN, if_true, Nat.one_ne_zero, if_false] at x0 x1 y0 y1
  obtain ⟨b, o, rfl, hlt, hX'⟩ := hX.pos (by omega)
  clear hX' hlt
  obtain ⟨W, hW⟩ : ∃ W, W = ((w.alloc (.cells #[.slice (some ⟨b, o, none⟩) l c] 24)).alloc (.cells #[.slice none 0 0] 24)).alloc (.cells #[.int .i64 x, .int .i64 y] 3) := ⟨_, rfl⟩
  have hb1 : Below w.heap.size w W := by rw [hW]; exact bel_alloc (bel_alloc (bel_alloc (Below.refl w.heap.size w) _) _) _
  have hs1 : W.heap.size = w.heap.size + 3 := by rw [hW]; simp
  have L0 : Loc W w.heap.size 0 (.slice (some ⟨b, o, none⟩) l c) := by rw [hW]; exact ((Loc.new _ _ _ _ 0 _ rfl rfl).alloc _).alloc _
  have L1 : Loc W (w.heap.size + 1) 0 (.slice none 0 0) := by rw [hW]; exact (Loc.new _ _ _ _ 0 _ (by simp) rfl).alloc _
  have hN : NumsAt W (some ⟨w.heap.size + 1 + 1, 0, none⟩) 2 (pairN x y) := by
    have := nums2 ((w.alloc (.cells #[.slice (some ⟨b, o, none⟩) l c] 24)).alloc (.cells #[.slice none 0 0] 24)) x y
    rw [size_alloc, size_alloc, ← hW] at this
    exact this
  have HH := Lib.hid (hasAll_any (some ⟨b, o, none⟩) _ l c 2 2 _ W hN (by omega))
  have HX := Lib.hid (hX.below hb1)
  clear hN hX
  go_enter Try.func24, Try.ntmps24
  go_wp2_with fail
  rw [← hW]
  refine HH.out.mono ?_
  rintro e w1 ⟨⟨r, rfl, _, hr, _⟩, hb⟩
  obtain rfl := hr hM hA
  have c0 := (L0.below hb).cell
  have L1a := L1.below hb
  have HX1 := Lib.hid (HX.out.below hb)
  have hB1 := bel_trans hb1 hb
  have hs2 := hb.size
  clear hr hW hb L0 L1 HH HX hb1
  go_wp2_with fail
  refine (draft_any _ _ _ _ X _ (by omega) HX1.out).mono ?_
  rintro e w2 ⟨f2, c2, rfl, hO, hb2⟩
  obtain ⟨g2, c2', hv, hbg, hg2, hlc, _⟩ := hO.pos (by omega)
  simp at hv
  obtain ⟨rfl, rfl⟩ := hv
  have hs3 := (bel_trans hB1 hb2).size
  obtain ⟨W3, hW3⟩ : ∃ W3, W3 = w2.alloc (.cells #[.slice (some ⟨g2, 0, none⟩) l c2] 76) := ⟨_, rfl⟩
  have hB3 : Below w.heap.size w W3 := by rw [hW3]; exact bel_alloc (bel_trans hB1 hb2) _
  have hO3 : OwnW W3 w.heap.size (.slice (some ⟨g2, 0, none⟩) l c2) l X := by rw [hW3]; exact (hO.mono (show w.heap.size ≤ _ by omega)).below (bel_alloc (Below.refl _ _) _)
  have L3 : Loc W3 (w.heap.size + 1) 0 (.slice none 0 0) := by rw [hW3]; exact (L1a.below hb2).alloc _
  have L4 : Loc W3 w2.heap.size 0 (.slice (some ⟨g2, 0, none⟩) l c2) := by rw [hW3]; exact Loc.new w2 _ _ _ 0 _ rfl rfl
  have hd : Below W3.heap.size W3 ((W3.alloc (.cells #[.slice (some ⟨g2, 0, none⟩) l c2] 65)).alloc (.cells #[.slice (some ⟨g2, 0, none⟩) l c2] 65)).drew := Below.drew (bel_alloc (bel_alloc (Below.refl _ _) _) _)
  obtain ⟨W5, hrun, hO5, hOnly⟩ := (hO3.below hd).copied (x * 8).toNat (y * 8).toNat (c2 - (y * 8).toNat) (c2 - (x * 8).toNat) (by omega) (by omega)
  have L5 := (L3.below hd).only hOnly (by omega)
  have L6 := (L4.below hd).only hOnly (by omega)
  have HB5 := Lib.hid (below_only (bel_trans hB3 hd) hOnly (by omega))
  have HO5 := Lib.hid hO5
  have HOnly := Lib.hid hOnly
  have HR := Lib.hid hrun
  have hne : w2.heap.size ≠ g2 := by omega
  have e4 := L4.cell
  have HL5 := Lib.hid L5
  have HL6 := Lib.hid L6
  have e6 := L6.cell
  have q1 : 0 ≤ x ∧ x * 8 + 8 ≤ (l : Int) := by omega
  have q2 : 0 ≤ y ∧ y * 8 + 8 ≤ (l : Int) := by omega
  have q3 : l ≤ 100000 := by omega
  have HA := Lib.hid hA
  have hwg : w.heap.size + 1 ≠ g2 := by omega
  clear L5 L6 hA x0 x1 y0 y1 hs1 hs2 hs3 hbg hg2 l1 l2 l3 hM
  clear hO hb2 hB1 L1a HX1 c0 hO3 hB3 hd hO5 hOnly L3 L4 hrun
  go_wp2_with fail
  rw [← hW3]
  clear hW3
  go_region_held3 (fun w' => w'.cell? ⟨w2.heap.size, 0, none⟩ = some (.slice (some ⟨g2, 0, none⟩) l c2))
    (repeat (first | with_reducible assumption | with_reducible refine cell_keep ?_ _ | with_reducible refine cell_drew ?_))
    (first
      | (go_at_call 46; refine (frame0_any _ _ _ _ _ (by first | exact q2.1 | exact q1.1) (by first | exact q2.2 | exact q1.2) hlc q3).mono ?_; rintro e w5 ⟨rfl, rfl⟩)
      | (refine step_copyW rfl (.tmp 25) (.tmp 29) rfl _ _ rfl rfl HR.out ?_))
  obtain ⟨p5, r5⟩ := HL5.out
  obtain ⟨p6, r6⟩ := HL6.out
  have hz := (HL5.out.put (.slice (some ⟨g2, 0, none⟩) l c2)).cell
  have R1 := Lib.hid (HO5.out.apart (w.heap.size + 1) 0 (.slice (some ⟨g2, 0, none⟩) l c2) (Ne.symm hwg))
  have R2 := Lib.hid (HB5.out.setCell (p := ⟨w.heap.size + 1, 0, none⟩) (by simp only; omega) (.slice (some ⟨g2, 0, none⟩) l c2))
  clear HR HOnly
  go_wp2
  refine bodyPost_ret (v := .tuple #[.agg #[.slice (some ⟨g2, 0, none⟩) l c2], .int .i64 0]) (by simp [results, Try.results24, go_sem, hz]) rfl ?_
  exact ⟨_, _, rfl, R1.out, R2.out⟩

theorem zero_err (f g : Option Addr) (l c n d : Nat) (N : Nat → Int) (q : Int) (w : World) (hN : NumsAt w g n N) (hn : n ≤ 1000000000) (hq : q = if okM l = true then 2 else 1) (h : okM l = true → ¬ allF l N n) :
    Calls Try.prog 23 #[.agg #[.slice f l c], .slice g n d] w fun e w' => e = .returned (.tuple #[.agg #[.slice none 0 0], .int .i64 q]) ∧ Below w.heap.size w w' := by
  obtain ⟨W, hW⟩ : ∃ W, W = (w.alloc (.cells #[.slice f l c] 24)).alloc (.cells #[.slice none 0 0] 24) := ⟨_, rfl⟩
  have hb1 : Below w.heap.size w W := by rw [hW]; exact bel_alloc (bel_alloc (Below.refl w.heap.size w) _) _
  have L1 : Loc W (w.heap.size + 1) 0 (.slice none 0 0) := by rw [hW]; exact Loc.new _ _ _ _ 0 _ (by simp) rfl
  have HH := Lib.hid (hasAll_any f g l c n d N W (hN.below hb1) hn)
  have hq0 : (q != 0) = true := by subst hq; split <;> rfl
  clear hN
  go_enter Try.func23, Try.ntmps23
  go_wp2_with fail
  rw [← hW]
  refine HH.out.mono ?_
  rintro e w1 ⟨⟨r, rfl, h1, _, h2⟩, hb⟩
  obtain rfl : r = q := by
    cases hM : okM l
    · rw [hM] at hq; exact (h1 hM).trans hq.symm
    · rw [hM] at hq
      exact (h2 hM (h hM)).trans hq.symm
  obtain ⟨p1, q1⟩ := L1.below hb
  have hz := ((L1.below hb).put (.slice none 0 0)).cell
  have HB := Lib.hid ((bel_trans hb1 hb).setCell (p := ⟨w.heap.size + 1, 0, none⟩) (by simp only; omega) (.slice none 0 0))
  clear h1 h2 hW hb hb1 HH h hq L1
  go_wp2
  refine bodyPost_ret (v := .tuple #[.agg #[.slice none 0 0], .int .i64 r]) (by simp [results, Try.results23, go_sem, hz]) rfl ?_
  exact ⟨rfl, HB.out⟩

theorem copy_err (f : Option Addr) (l c : Nat) (x y q : Int) (w : World) (hq : q = if okM l = true then 2 else 1) (h : okM l = true → ¬ allF l (pairN x y) 2) :
    Calls Try.prog 24 #[.agg #[.slice f l c], .int .i64 x, .int .i64 y] w fun e w' => e = .returned (.tuple #[.agg #[.slice none 0 0], .int .i64 q]) ∧ Below w.heap.size w w' := by
  obtain ⟨W, hW⟩ : ∃ W, W = ((w.alloc (.cells #[.slice f l c] 24)).alloc (.cells #[.slice none 0 0] 24)).alloc (.cells #[.int .i64 x, .int .i64 y] 3) := ⟨_, rfl⟩
  have hb1 : Below w.heap.size w W := by rw [hW]; exact bel_alloc (bel_alloc (bel_alloc (Below.refl w.heap.size w) _) _) _
  have L1 : Loc W (w.heap.size + 1) 0 (.slice none 0 0) := by rw [hW]; exact (Loc.new _ _ _ _ 0 _ (by simp) rfl).alloc _
  have hN : NumsAt W (some ⟨w.heap.size + 1 + 1, 0, none⟩) 2 (pairN x y) := by
    have := nums2 ((w.alloc (.cells #[.slice f l c] 24)).alloc (.cells #[.slice none 0 0] 24)) x y
    rw [size_alloc, size_alloc, ← hW] at this
    exact this
  have HH := Lib.hid (hasAll_any f _ l c 2 2 _ W hN (by omega))
  have hq0 : (q != 0) = true := by subst hq; split <;> rfl
  clear hN
  go_enter Try.func24, Try.ntmps24
  go_wp2_with fail
  rw [← hW]
  refine HH.out.mono ?_
  rintro e w1 ⟨⟨r, rfl, h1, _, h2⟩, hb⟩
  obtain rfl : r = q := by
    cases hM : okM l
    · rw [hM] at hq; exact (h1 hM).trans hq.symm
    · rw [hM] at hq
      exact (h2 hM (h hM)).trans hq.symm
  obtain ⟨p1, q1⟩ := L1.below hb
  have hz := ((L1.below hb).put (.slice none 0 0)).cell
  have HB := Lib.hid ((bel_trans hb1 hb).setCell (p := ⟨w.heap.size + 1, 0, none⟩) (by simp only; omega) (.slice none 0 0))
  clear h1 h2 hW hb hb1 HH h hq L1
  go_wp2
  refine bodyPost_ret (v := .tuple #[.agg #[.slice none 0 0], .int .i64 r]) (by simp [results, Try.results24, go_sem, hz]) rfl ?_
  exact ⟨rfl, HB.out⟩
end Go.Proofs.Ytpnkhijbfnnggaa
