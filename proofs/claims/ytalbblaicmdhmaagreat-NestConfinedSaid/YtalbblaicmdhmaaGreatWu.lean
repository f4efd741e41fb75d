/- Package walk's small calls: contracts. Package walk's trips: contracts of what goes through a pointer. Package walk's walks: arrive, end, Walk; Table: contracts. -/
import Derived.Test.YtalbblaicmdhmaaGreatWa
import Derived.Test.YtalbblaicmdhmaaGreatSt
import Derived.Test.YtalbblaicmdhmaaGreatDy
import Derived.Test.YtalbblaicmdhmaaGreatLt
import Derived.Deep.CutBlock
import Derived.Deep.DeepCutAuto
import Derived.Test.YtalbblaicmdhmaaGreatKp
import Derived.Test.YtalbblaicmdhmaaGreatNe
import Derived.Test.YtalbblaicmdhmaaGreatTk
set_option linter.all false
namespace Go.Proofs.YtalbblaicmdhmaaGreat
section
open Go.ChangeShapes Go.WideShapes Go.ChangeAt Go.RowKit Go.Deep

/-- How many frames a memory has, and none where it may not be. -/
def framesB (l : Nat) : Int := if okM l = true then (l : Int) / 8 else 0
def hasB (l : Nat) (n : Int) : Bool := decide (0 ≤ n) && decide (n < framesB l)
def tblMay (l : Nat) (st lv pg : Int) : Bool := okM l && (placeB st lv && numB pg 4095)

theorem tableOf_any (f : Option Addr) (l c : Nat) (st lv fr pg : Int) (w : World) :
    Calls Tryz.prog 66 #[.agg #[.slice f l c], .int .i64 st, .int .i64 lv, .int .i64 fr, .int .i64 pg] w fun e w' => e = .returned (.agg #[.slice f l c, .int .i64 st, .int .i64 lv, .int .i64 pg, .int .i64 fr]) ∧ Below w.heap.size w w' := by
  go_enter Tryz.func66, Tryz.ntmps66
  go_wp2
  go_returns
  exact ⟨rfl, by go_grown⟩
theorem fault_any (st lv pg k : Int) (w : World) :
    Calls Tryz.prog 88 #[.agg #[.int .i64 st, .int .i64 lv, .int .i64 pg], .int .i64 k] w fun e w' => e = .returned (fltV ⟨k, st, lv, false, pg⟩) ∧ Below w.heap.size w w' := by
  go_enter Tryz.func88, Tryz.ntmps88
  go_wp2
  go_returns
  exact ⟨rfl, by go_grown⟩
theorem within_spot (st lv pg : Int) (w : World) (h0 : 0 ≤ lv) (h1 : lv ≤ 3) (p0 : 0 ≤ pg) :
    Calls Tryz.prog 99 #[.agg #[.int .i64 st, .int .i64 lv, .int .i64 pg]] w fun e w' => e = .returned (.int .i64 (pg % cov lv)) ∧ Below w.heap.size w w' := by
  have HC := Lib.hid (fun W => dcovers_yes lv W (numB_iff.2 ⟨h0, h1⟩))
  have hc := cov_pos lv
  have hm : pg.tmod (cov lv) = pg % cov lv := Int.tmod_eq_emod_of_nonneg p0
  generalize cov lv = cv at *
  obtain ⟨c0, c1⟩ := hc
  have c2 : cv ≠ 0 := by omega
  go_enter Tryz.func99, Tryz.ntmps99
  go_wp2_with fail
  refine (HC.out _).mono ?_
  rintro e w1 ⟨rfl, rfl⟩
  go_wp2
  go_ret
  exact ⟨by first | rfl | rw [hm], by go_grown⟩
theorem storeMay_any (f : Option Addr) (l c : Nat) (w : World) :
    Calls Tryz.prog 77 #[.agg #[.slice f l c]] w fun e w' => e = .returned (.bool (okM l)) ∧ Below w.heap.size w w' := by
  cases h : okM l
  all_goals
    go_enter Tryz.func77, Tryz.ntmps77
    go_wp2_with fail
    refine (mcheck_any _ _ _ _).mono ?_
    rw [h]
    rintro e w1 ⟨rfl, hb1⟩
    go_wp2
    go_ret
    exact ⟨rfl, bel_trans (bel_alloc (Below.refl _ _) _) hb1⟩
theorem has_any (f : Option Addr) (l c : Nat) (n : Int) (w : World) :
    Calls Tryz.prog 79 #[.agg #[.slice f l c], .int .i64 n] w fun e w' => e = .returned (.bool (hasB l n)) ∧ Below w.heap.size w w' := by
  obtain ⟨N, k, hN, hT⟩ : ∃ N k : Int, framesB l = N ∧ (if okM l = true then Value.tuple #[.int .i64 ((l : Int) / 8), .int .i64 0] else .tuple #[.int .i64 0, .int .i64 1]) = .tuple #[.int .i64 N, .int .i64 k] := by
    unfold framesB
    cases okM l
    · exact ⟨0, 1, rfl, rfl⟩
    · exact ⟨_, 0, rfl, rfl⟩
  have HT := Lib.hid hT
  unfold hasB
  rw [hN]
  clear hT hN
  cases d0 : decide (0 ≤ n)
  all_goals
    go_enter Tryz.func79, Tryz.ntmps79
    go_wp2_with fail
    refine (frames_any _ _ _ _).mono ?_
    rw [HT.out]
    rintro e w1 ⟨rfl, hb1⟩
    go_wp2
    go_ret
    exact ⟨by first | rfl | simp, bel_trans (bel_alloc (Below.refl _ _) _) hb1⟩
theorem mayE_zeros (st lv : Int) : mayE st lv (Dsc.mk 0 0 false false false false false 0 0) = placeB st lv := by
  simp [mayE, mayD, noneD, eqD]
theorem spotMay_any (st lv pg : Int) (w : World) :
    Calls Tryz.prog 78 #[.agg #[.int .i64 st, .int .i64 lv, .int .i64 pg]] w fun e w' => e = .returned (.bool (placeB st lv && numB pg 4095)) ∧ Below w.heap.size w w' := by
  have M0 := Lib.hid (BoxAt.new w #[.int .i64 st, .int .i64 lv, .int .i64 pg] 117)
  have B0 := Lib.hid (bel_alloc (Below.refl w.heap.size w) (.cells #[.int .i64 st, .int .i64 lv, .int .i64 pg] 117))
  cases hi : (numB lv 3 && numB pg 4095)
  · have hr : (placeB st lv && numB pg 4095) = false := by
      rw [Bool.and_eq_false_iff] at hi ⊢
      rcases hi with hi | hi
      · left; rw [numB_no] at hi; rw [placeB_no]; exact fun h => hi h.2
      · exact Or.inr hi
    rw [hr]
    clear hr
    have HI := Lib.hid (fun W => dindex_no lv pg W hi)
    clear hi
    go_enter Tryz.func78, Tryz.ntmps78
    go_wp2_with fail
    refine (HI.out _).mono ?_
    rintro e w1 ⟨rfl, rfl⟩
    go_wp2
    go_ret
    exact ⟨rfl, B0.out⟩
  · obtain ⟨h1, h2⟩ := Bool.and_eq_true_iff.1 hi
    have HI := Lib.hid (fun W => dindex_yes lv pg W h1 h2)
    rw [h2]
    clear hi h1 h2
    generalize idx lv pg = g at *
    cases hp : placeB st lv
    all_goals
      have HC := Lib.hid (fun W => check_any st lv 0 0 false false false false false 0 0 W _ ((mayE_zeros st lv).trans hp))
      clear hp
      go_enter Tryz.func78, Tryz.ntmps78
      go_wp2_with fail
      refine (HI.out _).mono ?_
      rintro e w1 ⟨rfl, hb1⟩
      have M1 := M0.out.below hb1
      have B1 := Lib.hid (bel_trans B0.out hb1)
      have c0 := M1.get 0 (.int .i64 st) rfl
      have c1 := M1.get 1 (.int .i64 lv) rfl
      clear M1 hb1
      go_wp2_with fail
      refine (HC.out _).mono ?_
      rintro e w2 ⟨rfl, hb2⟩
      go_wp2
      go_ret
      exact ⟨rfl, bel_trans B1.out hb2⟩
theorem tableMay_any (f : Option Addr) (l c : Nat) (st lv pg fr : Int) (w : World) :
    Calls Tryz.prog 67 #[.agg #[.slice f l c, .int .i64 st, .int .i64 lv, .int .i64 pg, .int .i64 fr]] w fun e w' => e = .returned (.bool (tblMay l st lv pg)) ∧ Below w.heap.size w w' := by
  have M0 := Lib.hid (BoxAt.new w #[.slice f l c, .int .i64 st, .int .i64 lv, .int .i64 pg, .int .i64 fr] 119)
  have B0 := Lib.hid (bel_alloc (Below.refl w.heap.size w) (.cells #[.slice f l c, .int .i64 st, .int .i64 lv, .int .i64 pg, .int .i64 fr] 119))
  unfold tblMay
  cases h : okM l
  · go_enter Tryz.func67, Tryz.ntmps67
    go_wp2_with fail
    refine (storeMay_any _ _ _ _).mono ?_
    rw [h]
    rintro e w1 ⟨rfl, hb1⟩
    go_wp2
    go_ret
    exact ⟨rfl, bel_trans B0.out hb1⟩
  · go_enter Tryz.func67, Tryz.ntmps67
    go_wp2_with fail
    refine (storeMay_any _ _ _ _).mono ?_
    rw [h]
    rintro e w1 ⟨rfl, hb1⟩
    have M1 := M0.out.below hb1
    have B1 := Lib.hid (bel_trans B0.out hb1)
    have c1 := M1.get 1 (.int .i64 st) rfl
    have c2 := M1.get 2 (.int .i64 lv) rfl
    have c3 := M1.get 3 (.int .i64 pg) rfl
    clear M1 hb1
    go_wp2_with fail
    refine (spotMay_any _ _ _ _).mono ?_
    rintro e w2 ⟨rfl, hb2⟩
    go_wp2
    go_ret
    exact ⟨ret_bool (by simp), bel_trans B1.out hb2⟩
theorem there_any (f : Option Addr) (l c : Nat) (st lv pg fr : Int) (w : World) :
    Calls Tryz.prog 68 #[.agg #[.slice f l c, .int .i64 st, .int .i64 lv, .int .i64 pg, .int .i64 fr]] w fun e w' => e = .returned (.bool (hasB l fr)) ∧ Below w.heap.size w w' := by
  go_enter Tryz.func68, Tryz.ntmps68
  go_wp2_with fail
  refine (has_any _ _ _ _ _).mono ?_
  rintro e w1 ⟨rfl, hb1⟩
  go_wp2
  go_ret
  exact ⟨rfl, bel_trans (bel_alloc (Below.refl _ _) _) hb1⟩
theorem rd_whole (X : Nat → BitVec 64) (a : Int) (h : a % 8 = 0) : rdV X a 8 = X (a / 8).toNat := by
  unfold rdV
  rw [h]
  show X _ >>> 0 &&& msk 64 = _
  rw [BitVec.ushiftRight_zero, show msk 64 = BitVec.allOnes 64 from by decide, BitVec.and_allOnes]
set_option maxRecDepth 100000 in
theorem desc_table (f : Option Addr) (l c : Nat) (X : Nat → BitVec 64) (st lv pg fr : Int) (w : World) (hX : WordsAt w f l X) (hM : okM l = true) (hp : placeB st lv = true) (p0 : 0 ≤ pg) (p1 : pg ≤ 4095) (f0 : 0 ≤ fr) (f1 : fr < (l : Int) / 8) :
    Calls Tryz.prog 69 #[.agg #[.slice f l c, .int .i64 st, .int .i64 lv, .int .i64 pg, .int .i64 fr]] w fun e w' => e = .returned (dscV (tblD X st lv fr pg)) ∧ Below w.heap.size w w' := by
  obtain ⟨l0, l1, l2⟩ := okM_true hM
  have hlv := (placeB_iff.1 hp).2
  have HI := Lib.hid (fun W => dindex_yes lv pg W (numB_iff.2 hlv) (numB_iff.2 ⟨p0, p1⟩))
  have hg : 0 ≤ idx lv pg ∧ idx lv pg ≤ 7 := idx_lo lv pg
  have ht : tblD X st lv fr pg = ofD st lv (X (fr * 8 + idx lv pg).toNat) := rfl
  rw [ht]
  have HO := Lib.hid (fun v W => of_any st lv v W hp)
  clear ht hp hlv p0 p1
  generalize idx lv pg = g at *
  obtain ⟨g0, g1⟩ := hg
  have i1 : IntKind.i64.wrap (fr * 64) = fr * 64 := IntWalk.i64_in _ (by omega)
  have i2 : IntKind.i64.wrap (g * 8) = g * 8 := IntWalk.i64_in _ (by omega)
  have i3 : IntKind.i64.wrap (fr * 64 + g * 8) = fr * 64 + g * 8 := IntWalk.i64_in _ (by omega)
  have hE : mayM l (fr * 64 + g * 8) 8 = 0 := by
    unfold mayM
    rw [if_neg (by decide), if_neg (by omega), if_neg (by simp; omega)]
  have hR : rdV X (fr * 64 + g * 8) 8 = X (fr * 8 + g).toNat := by
    rw [rd_whole _ _ (by omega)]
    congr 2
    omega
  have HR := Lib.hid (fun W (hW : WordsAt W f l X) => read_ok f l c X (fr * 64 + g * 8) 8 W hW hM hE)
  rw [hR] at HR
  clear hE hR hM l2
  generalize X (fr * 8 + g).toNat = v at *
  have HO := Lib.hid (fun W => HO.out v W)
  generalize ofD st lv v = d at *
  have HX := Lib.hid hX
  clear hX
  have M0 := Lib.hid ((BoxAt.new w #[.slice f l c, .int .i64 st, .int .i64 lv, .int .i64 pg, .int .i64 fr] 119).alloc (.cells z9 70))
  have R0 := Lib.hid (BoxAt.newAt (w.alloc (.cells #[.slice f l c, .int .i64 st, .int .i64 lv, .int .i64 pg, .int .i64 fr] 119)) z9 70 (w.heap.size + 1) (by simp))
  have B0 := Lib.hid (bel_alloc (bel_alloc (Below.refl w.heap.size w) (.cells #[.slice f l c, .int .i64 st, .int .i64 lv, .int .i64 pg, .int .i64 fr] 119)) (.cells z9 70))
  go_enter Tryz.func69, Tryz.ntmps69
  go_upto_region 1 with fail
  obtain ⟨W0, hW0⟩ : ∃ W0, W0 = (w.alloc (.cells #[.slice f l c, .int .i64 st, .int .i64 lv, .int .i64 pg, .int .i64 fr] 119)).alloc (.cells z9 70) := ⟨_, rfl⟩
  rw [← hW0] at M0 R0 B0 ⊢
  clear hW0
  have Mc2 := M0.out.get 2 (.int .i64 lv) rfl
  have Mc3 := M0.out.get 3 (.int .i64 pg) rfl
  go_wp2_with fail
  refine (HI.out _).mono ?_
  rintro e w1 ⟨rfl, hb1⟩
  have M2 := Lib.hid (M0.out.below hb1)
  have R2 := Lib.hid (R0.out.below hb1)
  have B2 := Lib.hid (bel_trans B0.out hb1)
  clear Mc2 Mc3
  clear M0 R0 B0 hb1
  have Mc0 := M2.out.get 0 (.slice f l c) rfl
  have Mc4 := M2.out.get 4 (.int .i64 fr) rfl
  have HW := HX.out.below B2.out
  go_wp2_with fail
  refine (HR.out _ HW).mono ?_
  rintro e w3 ⟨rfl, hb3⟩
  clear HW
  have M4 := Lib.hid (M2.out.below hb3)
  have R4 := Lib.hid (R2.out.below hb3)
  have B4 := Lib.hid (bel_trans B2.out hb3)
  clear Mc0 Mc4
  clear M2 R2 B2 hb3
  have Mc1 := M4.out.get 1 (.int .i64 st) rfl
  have Mc2 := M4.out.get 2 (.int .i64 lv) rfl
  go_wp2_with fail
  refine (HO.out _).mono ?_
  rintro e w5 ⟨rfl, hb5⟩
  have M6 := Lib.hid (M4.out.below hb5)
  have R6 := Lib.hid (R4.out.below hb5)
  have B6 := Lib.hid (bel_trans B4.out hb5)
  clear Mc1 Mc2
  clear M4 R4 B4 hb5
  unfold dscV
  go_upto_region 4 with fail
  have M7 := Lib.hid ((M6.out.alloc (.cells #[.int .i64 d.k, .int .i64 d.f, .bool d.r, .bool d.w, .bool d.x, .bool d.a, .bool d.n, .int .i64 d.s, .int .i64 d.o] 70)))
  have R7 := Lib.hid ((R6.out.alloc (.cells #[.int .i64 d.k, .int .i64 d.f, .bool d.r, .bool d.w, .bool d.x, .bool d.a, .bool d.n, .int .i64 d.s, .int .i64 d.o] 70)))
  have D7 := Lib.hid ((BoxAt.newAt _ #[.int .i64 d.k, .int .i64 d.f, .bool d.r, .bool d.w, .bool d.x, .bool d.a, .bool d.n, .int .i64 d.s, .int .i64 d.o] 70 (w5.heap.size) (by first | rfl | (simp; done) | (simp; omega))))
  have B7 := Lib.hid ((bel_alloc B6.out (.cells #[.int .i64 d.k, .int .i64 d.f, .bool d.r, .bool d.w, .bool d.x, .bool d.a, .bool d.n, .int .i64 d.s, .int .i64 d.o] 70)))
  clear M6 R6 B6
  obtain ⟨W8, hW8⟩ : ∃ W8, W8 = w5.alloc (.cells #[.int .i64 d.k, .int .i64 d.f, .bool d.r, .bool d.w, .bool d.x, .bool d.a, .bool d.n, .int .i64 d.s, .int .i64 d.o] 70) := ⟨_, rfl⟩
  obtain ⟨G8, hG8⟩ : ∃ G8, G8 = w5.heap.size := ⟨_, rfl⟩
  rw [← hW8] at M7 R7 D7 B7 ⊢
  rw [← hG8] at D7 ⊢
  clear hW8 hG8
  have Dc0 := D7.out.get 0 (.int .i64 d.k) rfl
  have Dc1 := D7.out.get 1 (.int .i64 d.f) rfl
  have Dc2 := D7.out.get 2 (.bool d.r) rfl
  have Dc3 := D7.out.get 3 (.bool d.w) rfl
  have Dc4 := D7.out.get 4 (.bool d.x) rfl
  have Dc5 := D7.out.get 5 (.bool d.a) rfl
  have Dc6 := D7.out.get 6 (.bool d.n) rfl
  have Dc7 := D7.out.get 7 (.int .i64 d.s) rfl
  have Dc8 := D7.out.get 8 (.int .i64 d.o) rfl
  have Rc0 := R7.out.get 0 (.int .i64 0) rfl
  have Rc1 := R7.out.get 1 (.int .i64 0) rfl
  have Rc2 := R7.out.get 2 (.bool false) rfl
  have Rc3 := R7.out.get 3 (.bool false) rfl
  have Rc4 := R7.out.get 4 (.bool false) rfl
  have Rc5 := R7.out.get 5 (.bool false) rfl
  have Rc6 := R7.out.get 6 (.bool false) rfl
  have Rc7 := R7.out.get 7 (.int .i64 0) rfl
  have Rc8 := R7.out.get 8 (.int .i64 0) rfl
  have Rz0 := R7.out.free 0
  have Rz1 := R7.out.free 1
  have Rz2 := R7.out.free 2
  have Rz3 := R7.out.free 3
  have Rz4 := R7.out.free 4
  have Rz5 := R7.out.free 5
  have Rz6 := R7.out.free 6
  have Rz7 := R7.out.free 7
  have Rz8 := R7.out.free 8
  go_wp2
  refine bodyPost_ret (v := .agg #[.int .i64 d.k, .int .i64 d.f, .bool d.r, .bool d.w, .bool d.x, .bool d.a, .bool d.n, .int .i64 d.s, .int .i64 d.o]) (by simp [results, Tryz.results69, go_sem, Rc0, Rc1, Rc2, Rc3, Rc4, Rc5, Rc6, Rc7, Rc8]) rfl ⟨rfl, ?_⟩
  repeat' (first | with_reducible exact B7.out | with_reducible refine Below.setCell ?_ (by first | (simp; done) | (simp; omega)) _)
end
section
open Go.ChangeShapes Go.WideShapes Go.ChangeAt Go.RowKit Go.Deep

/-- 'append(s, x)' of one number, in a region that draws its order. -/
theorem step_pushI {w : World} {ops : Array Oper} {o : Oper} {a : Act} {K : Act → World → Prop} {Q : Exit → Act → World → Prop} {E : Prop} (hgd : o.guard = none) (s x : Operand)
    (ho : o.op = .call { callee := .builtin .append, args := #[s, x], argTypes := #[25, 25] })
    (base : Nat) (v : Value) (L : List Int) (hs : a.eval s = v) (hown : OwnI w base v L)
    (b c : Nat) (y : Int) (hx : a.eval x = .slice (some ⟨b, 0, none⟩) 1 c) (hy : w.cell? ⟨b, 0, none⟩ = some (.int .i64 y)) (hk : L.length ≤ 100000) (hbase : base ≤ w.heap.size)
    (h : ∀ f' c' w', OwnI w' base (.slice f' (L.length + 1) c') (L ++ [y]) → w.grownBy w' v.ownBlock → K (a.put o.dst (.slice f' (L.length + 1) c')) w') : if Region.wanted o (yielded ops a.tmps) = true then Oper.wp Tryz.prog o a w K Q else E := by
  have hw : Region.wanted o (yielded ops a.tmps) = true := by simp [Region.wanted, hgd]
  rw [if_pos hw]
  obtain ⟨i0, hi, hz0, hz1, hz2⟩ := info_parts infoI
  refine wp_append_own _ s x 25 ho base 3 i0 _ 1 8 Tryz.underlying25 hi hz0 hz1 hz2 rfl (by decide) _ L.length (icells L) hs hown _ 1 c [.int .i64 y] hx rfl ?_ (by simp; rfl)
    (by unfold maxLen; omega) (by omega) hbase ?_
  · intro t v hv
    match t, hv with
    | 0, hv => simp at hv; subst hv; exact hy
    | t + 1, hv => simp at hv
  · intro v' w' hown' hgrow _
    have hO : OwnI w' base v' (L ++ [y]) := by
      unfold OwnI
      rw [icells_append, List.length_append]
      exact hown'
    obtain ⟨f', c', rfl, _⟩ := hO.form
    have e1 : (L ++ [y]).length = L.length + 1 := by simp
    rw [e1] at hO ⊢
    exact h f' c' w' hO hgrow
theorem goTo_any (f : Option Addr) (l c : Nat) (st lv pg fr nx : Int) (rd : Value) (tb : Nat) (w : World) (hT : BoxAt w tb #[.slice f l c, .int .i64 st, .int .i64 lv, .int .i64 pg, .int .i64 fr, rd] 132) (h0 : 0 ≤ lv) (h1 : lv ≤ 3) :
    Calls Tryz.prog 86 #[.pointer (some ⟨tb, 0, none⟩), .int .i64 nx] w fun e w' => e = .returned (.tuple #[]) ∧ w' = (w.setCell ⟨tb, 2, none⟩ (.int .i64 (lv + 1))).setCell ⟨tb, 4, none⟩ (.int .i64 nx) := by
  have i1 : IntKind.i64.wrap (lv + 1) = lv + 1 := IntWalk.i64_in _ (by omega)
  have c2 := hT.get 2 (.int .i64 lv) rfl
  have c4 := hT.get 4 (.int .i64 fr) rfl
  have z2 := hT.free 2
  have z4 := hT.free 4
  clear hT
  go_enter Tryz.func86, Tryz.ntmps86
  go_wp2
  go_end0
  exact ⟨rfl, rfl⟩
theorem mayBegin_any (f : Option Addr) (l c : Nat) (st lv pg fr : Int) (rd : Value) (tb : Nat) (w : World) (hT : BoxAt w tb #[.slice f l c, .int .i64 st, .int .i64 lv, .int .i64 pg, .int .i64 fr, rd] 132) :
    Calls Tryz.prog 75 #[.pointer (some ⟨tb, 0, none⟩)] w fun e w' => e = .returned (.bool (tblMay l st lv pg && numB fr 4095)) ∧ Below w.heap.size w w' := by
  have HM := Lib.hid (fun W => tableMay_any f l c st lv pg fr W)
  have T0 := Lib.hid hT
  have c0 := hT.get 0 (.slice f l c) rfl
  have c1 := hT.get 1 (.int .i64 st) rfl
  have c2 := hT.get 2 (.int .i64 lv) rfl
  have c3 := hT.get 3 (.int .i64 pg) rfl
  have c4 := hT.get 4 (.int .i64 fr) rfl
  clear hT
  have hn : numB fr 4095 = (decide (0 ≤ fr) && decide (fr ≤ 4095)) := by simp [numB]
  rw [hn]
  clear hn
  cases hm : tblMay l st lv pg
  · rw [hm] at HM
    clear hm
    go_enter Tryz.func75, Tryz.ntmps75
    go_wp2_with fail
    refine (HM.out _).mono ?_
    rintro e w1 ⟨rfl, hb1⟩
    have B1 := Lib.hid hb1
    clear hb1 c0 c1 c2 c3 c4
    go_wp2
    go_ret
    exact ⟨rfl, B1.out⟩
  · rw [hm] at HM
    clear hm
    cases d0 : decide (0 ≤ fr)
    all_goals
      go_enter Tryz.func75, Tryz.ntmps75
      go_wp2_with fail
      refine (HM.out _).mono ?_
      rintro e w1 ⟨rfl, hb1⟩
      have T1 := T0.out.below hb1
      have B1 := Lib.hid hb1
      clear hb1 c0 c1 c2 c3 c4
      have c4 := T1.get 4 (.int .i64 fr) rfl
      clear T1
      go_wp2
      go_ret
      exact ⟨by first | rfl | simp, B1.out⟩
/-- What a look leaves. -/
def LookEnd (tb B : Nat) (f : Option Addr) (l c : Nat) (st lv pg fr : Int) (d : Dsc) (R : List Int) (w : World) (e : Ending) (w' : World) : Prop :=
  ∃ f2 c2, e = .returned (dscV d) ∧ BoxAt w' tb #[.slice f l c, .int .i64 st, .int .i64 lv, .int .i64 pg, .int .i64 fr, .slice f2 (R.length + 1) c2] 132 ∧ OwnI w' B (.slice f2 (R.length + 1) c2) (R ++ [fr]) ∧ Kept tb B w w'
set_option maxRecDepth 100000 in
set_option maxHeartbeats 1600000 in
theorem look_any (f : Option Addr) (l c : Nat) (X : Nat → BitVec 64) (st lv pg fr : Int) (f' : Option Addr) (c' : Nat) (R : List Int) (tb B : Nat) (w0 w : World) (hX : WordsAt w0 f l X) (hM : okM l = true) (hp : placeB st lv = true) (p0 : 0 ≤ pg) (p1 : pg ≤ 4095) (f0 : 0 ≤ fr) (f1 : fr < (l : Int) / 8)
    (hB0 : Below w0.heap.size w0 w) (h0 : w0.heap.size ≤ tb) (hT : BoxAt w tb #[.slice f l c, .int .i64 st, .int .i64 lv, .int .i64 pg, .int .i64 fr, .slice f' R.length c'] 132) (hBw : B ≤ w.heap.size) (htB : tb < B) (hO : OwnI w B (.slice f' R.length c') R) (hk : R.length ≤ 100) :
    Calls Tryz.prog 85 #[.pointer (some ⟨tb, 0, none⟩)] w (LookEnd tb B f l c st lv pg fr (tblD X st lv fr pg) R w) := by
  have HD := Lib.hid (fun W (hW : WordsAt W f l X) => desc_table f l c X st lv pg fr W hW hM hp p0 p1 f0 f1)
  generalize tblD X st lv fr pg = d at *
  clear hM hp p0 p1 f0 f1
  have HX := Lib.hid hX
  have D0 := Lib.hid (BoxAt.new w z9 70)
  have T0 := Lib.hid (hT.alloc (.cells z9 70))
  have O0 := Lib.hid (hO.alloc (.cells z9 70))
  have K0 := Lib.hid (Kept.of ((Below.refl B w).alloc hBw (.cells z9 70)) (show tb ≤ B by omega))
  have hbo : (Value.slice f' R.length c').ownBlock ≠ some w.heap.size := by
    intro he
    have := hO.blt _ he
    omega
  have hbt : (Value.slice f' R.length c').ownBlock ≠ some tb := by
    intro he
    have := hO.blk _ he
    omega
  have HBO := Lib.hid hbo
  have HBT := Lib.hid hbt
  have HB0 := Lib.hid hB0
  clear hX hT hO hbo hbt hB0
  go_enter Tryz.func85, Tryz.ntmps85
  go_upto_region 1 with fail
  obtain ⟨G, hG⟩ : ∃ G, G = w.heap.size := ⟨_, rfl⟩
  obtain ⟨W0, hW0⟩ : ∃ W0, W0 = w.alloc (.cells z9 70) := ⟨_, rfl⟩
  have hsz : W0.heap.size = G + 1 := by rw [hW0, hG]; simp
  rw [← hW0] at D0 T0 O0 K0 ⊢
  rw [← hG] at D0 HBO hBw ⊢
  clear hW0 hG
  refine wp_region_late 14 (fun w' => BoxAt w' tb #[.slice f l c, .int .i64 st, .int .i64 lv, .int .i64 pg, .int .i64 fr, .slice f' R.length c'] 132) (by kernel_rfl) ?_
  have hS := T0.out.drew
  refine late_take 0 (oi := ⟨some 3, _, _, _, _, _⟩) (v := ?_) rfl (by kernel_rfl) (by kernel_rfl) (by kernel_rfl) (by kernel_rfl) (fun _ _ _ h => h) hS (Or.inl ⟨by rfl, ?_⟩) ?_
  rotate_left
  · (intro w' hSw; have s4 := hSw.get 4 (.int .i64 fr) rfl; have s5 := hSw.get 5 (.slice f' R.length c') rfl; clear hSw; go_simp; try with_reducible rfl)
  simp only [Act.put, List.setIfInBounds_toArray, List.set_cons_zero, List.set_cons_succ]
  refine late_take 1 (oi := ⟨some 4, _, _, _, _, _⟩) (v := ?_) rfl (by kernel_rfl) (by kernel_rfl) (by kernel_rfl) (by kernel_rfl) (fun _ _ _ h => h) hS (Or.inl ⟨by rfl, ?_⟩) ?_
  rotate_left
  · (intro w' hSw; have s4 := hSw.get 4 (.int .i64 fr) rfl; have s5 := hSw.get 5 (.slice f' R.length c') rfl; clear hSw; go_simp; try with_reducible rfl)
  simp only [Act.put, List.setIfInBounds_toArray, List.set_cons_zero, List.set_cons_succ]
  refine late_take 2 (oi := ⟨some 5, _, _, _, _, _⟩) (v := ?_) rfl (by kernel_rfl) (by kernel_rfl) (by kernel_rfl) (by kernel_rfl) (fun _ _ _ h => h) hS (Or.inl ⟨by rfl, ?_⟩) ?_
  rotate_left
  · (intro w' hSw; have s4 := hSw.get 4 (.int .i64 fr) rfl; have s5 := hSw.get 5 (.slice f' R.length c') rfl; clear hSw; go_simp; try with_reducible rfl)
  simp only [Act.put, List.setIfInBounds_toArray, List.set_cons_zero, List.set_cons_succ]
  refine late_take 3 (oi := ⟨some 6, _, _, _, _, _⟩) (v := ?_) rfl (by kernel_rfl) (by kernel_rfl) (by kernel_rfl) (by kernel_rfl) (fun _ _ _ h => h) hS (Or.inl ⟨by rfl, ?_⟩) ?_
  rotate_left
  · (intro w' hSw; have s4 := hSw.get 4 (.int .i64 fr) rfl; have s5 := hSw.get 5 (.slice f' R.length c') rfl; clear hSw; go_simp; try with_reducible rfl)
  simp only [Act.put, List.setIfInBounds_toArray, List.set_cons_zero, List.set_cons_succ]
  refine late_take 4 (oi := ⟨some 7, _, _, _, _, _⟩) (v := ?_) rfl (by kernel_rfl) (by kernel_rfl) (by kernel_rfl) (by kernel_rfl) (fun _ _ _ h => h) hS (Or.inl ⟨by rfl, ?_⟩) ?_
  rotate_left
  · (intro w' hSw; have s4 := hSw.get 4 (.int .i64 fr) rfl; have s5 := hSw.get 5 (.slice f' R.length c') rfl; clear hSw; go_simp; try with_reducible rfl)
  simp only [Act.put, List.setIfInBounds_toArray, List.set_cons_zero, List.set_cons_succ]
  refine late_take 5 (oi := ⟨some 8, _, _, _, _, _⟩) (v := ?_) rfl (by kernel_rfl) (by kernel_rfl) (by kernel_rfl) (by kernel_rfl) (fun _ _ _ h => h) hS (Or.inl ⟨by rfl, ?_⟩) ?_
  rotate_left
  · (intro w' hSw; have s4 := hSw.get 4 (.int .i64 fr) rfl; have s5 := hSw.get 5 (.slice f' R.length c') rfl; clear hSw; go_simp; try with_reducible rfl)
  simp only [Act.put, List.setIfInBounds_toArray, List.set_cons_zero, List.set_cons_succ]
  refine late_take 6 (oi := ⟨some 9, _, _, _, _, _⟩) (v := ?_) rfl (by kernel_rfl) (by kernel_rfl) (by kernel_rfl) (by kernel_rfl) (fun _ _ _ h => h) hS (Or.inl ⟨by rfl, ?_⟩) ?_
  rotate_left
  · (intro w' hSw; have s4 := hSw.get 4 (.int .i64 fr) rfl; have s5 := hSw.get 5 (.slice f' R.length c') rfl; clear hSw; go_simp; try with_reducible rfl)
  simp only [Act.put, List.setIfInBounds_toArray, List.set_cons_zero, List.set_cons_succ]
  refine late_take 7 (oi := ⟨some 10, _, _, _, _, _⟩) (v := ?_) rfl (by kernel_rfl) (by kernel_rfl) (by kernel_rfl) (by kernel_rfl) (fun _ _ _ h => h) hS (Or.inl ⟨by rfl, ?_⟩) ?_
  rotate_left
  · (intro w' hSw; have s4 := hSw.get 4 (.int .i64 fr) rfl; have s5 := hSw.get 5 (.slice f' R.length c') rfl; clear hSw; go_simp; try with_reducible rfl)
  simp only [Act.put, List.setIfInBounds_toArray, List.set_cons_zero, List.set_cons_succ]
  refine late_take 8 (oi := ⟨some 11, _, _, _, _, _⟩) (v := ?_) rfl (by kernel_rfl) (by kernel_rfl) (by kernel_rfl) (by kernel_rfl) (fun _ _ _ h => h) hS (Or.inl ⟨by rfl, ?_⟩) ?_
  rotate_left
  · (intro w' hSw; have s4 := hSw.get 4 (.int .i64 fr) rfl; have s5 := hSw.get 5 (.slice f' R.length c') rfl; clear hSw; go_simp; try with_reducible rfl)
  simp only [Act.put, List.setIfInBounds_toArray, List.set_cons_zero, List.set_cons_succ]
  refine late_take 9 (oi := ⟨some 12, _, _, _, _, _⟩) (v := ?_) rfl (by kernel_rfl) (by kernel_rfl) (by kernel_rfl) (by kernel_rfl) (fun _ _ _ h => h) hS (Or.inl ⟨by rfl, ?_⟩) ?_
  rotate_left
  · (intro w' hSw; have s4 := hSw.get 4 (.int .i64 fr) rfl; have s5 := hSw.get 5 (.slice f' R.length c') rfl; clear hSw; go_simp; try with_reducible rfl)
  simp only [Act.put, List.setIfInBounds_toArray, List.set_cons_zero, List.set_cons_succ]
  refine late_one 10 (o := ⟨some 13, _, _, _, _, _⟩) (by kernel_rfl) rfl (fun K hK => ?_)
  go_simp
  refine hK.out _ _ ?_ (fun hS' => ?_)
  · exact hS.alloc _
  clear hK K hS
  have hS := hS'
  clear hS'
  try simp only [Act.put, List.setIfInBounds_toArray, List.set_cons_zero, List.set_cons_succ]
  have O1 := Lib.hid ((O0.out.alloc (.cells #[.int .i64 fr] 3)).drew)
  have D1 := Lib.hid ((D0.out.alloc (.cells #[.int .i64 fr] 3)).drew)
  have hZ := cell_new W0 #[.int .i64 fr] 3 0
  rw [hsz] at hZ
  have K1 := Lib.hid (K0.out.step (Below.drew (bel_alloc (Below.refl _ _) (.cells #[.int .i64 fr] 3))) (by omega) (by omega))
  refine late_one 11 (o := ⟨some 14, _, _, _, _, _⟩) (by kernel_rfl) rfl (fun K hK => ?_)
  refine step_pushI rfl _ _ rfl B _ R rfl O1.out _ 1 fr rfl hZ (by omega) (by simp; omega) ?_
  intro f2 c2 w2 hO2 hg2
  refine hK.out _ _ ?_ (fun hS' => ?_)
  · exact hS.grown hg2 HBT.out
  have hl2 := hg2.size
  simp at hl2
  have D2 := Lib.hid (D1.out.grown hg2 HBO.out)
  have O2 := Lib.hid hO2
  have K2 := Lib.hid (K1.out.trans (Kept.of ((Below.refl B _).grown hg2 (by simp; omega) O1.out.blk) (by omega)))
  clear hK K hS hZ D1 O1 K1 D0 O0 K0 hg2 hO2
  have hS := hS'
  clear hS'
  try simp only [Act.put, List.setIfInBounds_toArray, List.set_cons_zero, List.set_cons_succ]
  refine late_one 12 (o := ⟨some 15, _, _, _, _, _⟩) (by kernel_rfl) rfl (fun K hK => ?_)
  go_simp
  refine hK.out _ _ hS (fun hS' => ?_)
  clear hK K hS
  have hS := hS'
  clear hS'
  try simp only [Act.put, List.setIfInBounds_toArray, List.set_cons_zero, List.set_cons_succ]
  refine late_one 13 (o := ⟨some 16, _, _, _, _, _⟩) (by kernel_rfl) rfl (fun K hK => ?_)
  go_simp
  refine hK.out _ _ hS (fun hS' => ?_)
  clear hK K hS
  have hS := hS'
  clear hS'
  try simp only [Act.put, List.setIfInBounds_toArray, List.set_cons_zero, List.set_cons_succ]
  refine late_last (by kernel_rfl) (by kernel_rfl) rfl (fun K hK => ?_)
  have z5 := hS.free 5
  have s5 := hS.get 5 (.slice f' R.length c') rfl
  go_simp
  refine hK.out _ _ ?_
  clear hK K s5 z5
  have T3 := Lib.hid (hS.set 5 (.slice f2 (R.length + 1) c2) #[.slice f l c, .int .i64 st, .int .i64 lv, .int .i64 pg, .int .i64 fr, .slice f2 (R.length + 1) c2] rfl)
  have D3 := Lib.hid (D2.out.other ⟨tb, 5, none⟩ (.slice f2 (R.length + 1) c2) (by show G ≠ tb; omega))
  have O3 := Lib.hid (O2.out.otherN ⟨tb, 5, none⟩ (.slice f2 (R.length + 1) c2) (by intro he; have := O2.out.blk _ he; simp at this; omega))
  have K3 := Lib.hid (K2.out.set 5 (.slice f2 (R.length + 1) c2))
  have hl3 : G < (w2.setCell ⟨tb, 5, none⟩ (.slice f2 (R.length + 1) c2)).heap.size := D3.out.lt
  obtain ⟨w3, hw3⟩ : ∃ w3, w3 = w2.setCell ⟨tb, 5, none⟩ (.slice f2 (R.length + 1) c2) := ⟨_, rfl⟩
  rw [← hw3] at T3 D3 O3 K3 hl3 ⊢
  clear hw3 hS D2 O2 K2 T0
  have HW := HX.out.below (K3.out.under HB0.out h0)
  have c0 := T3.out.get 0 (.slice f l c) rfl
  have c1 := T3.out.get 1 (.int .i64 st) rfl
  have c2' := T3.out.get 2 (.int .i64 lv) rfl
  have c3 := T3.out.get 3 (.int .i64 pg) rfl
  have c4 := T3.out.get 4 (.int .i64 fr) rfl
  go_wp2_with fail
  refine (HD.out _ HW).mono ?_
  rintro e w4 ⟨rfl, hb4⟩
  unfold dscV
  have T4 := Lib.hid (T3.out.below hb4)
  have D4 := D3.out.below hb4
  have O4 := Lib.hid (O3.out.below hb4)
  have K4 := Lib.hid (K3.out.step hb4 (by omega) (by omega))
  clear T3 D3 O3 K3 hb4 HW c0 c1 c2' c3 c4
  have hN4 := Lib.hid (O4.out.ne_box D4 (by decide))
  have d0 := D4.get 0 (.int .i64 0) rfl
  have e0 := D4.free 0
  have d1 := D4.get 1 (.int .i64 0) rfl
  have e1 := D4.free 1
  have d2 := D4.get 2 (.bool false) rfl
  have e2 := D4.free 2
  have d3 := D4.get 3 (.bool false) rfl
  have e3 := D4.free 3
  have d4 := D4.get 4 (.bool false) rfl
  have e4 := D4.free 4
  have d5 := D4.get 5 (.bool false) rfl
  have e5 := D4.free 5
  have d6 := D4.get 6 (.bool false) rfl
  have e6 := D4.free 6
  have d7 := D4.get 7 (.int .i64 0) rfl
  have e7 := D4.free 7
  have d8 := D4.get 8 (.int .i64 0) rfl
  have e8 := D4.free 8
  clear D4
  go_wp2
  refine bodyPost_ret (v := .agg #[.int .i64 d.k, .int .i64 d.f, .bool d.r, .bool d.w, .bool d.x, .bool d.a, .bool d.n, .int .i64 d.s, .int .i64 d.o]) (by simp [results, Tryz.results85, go_sem, d0, d1, d2, d3, d4, d5, d6, d7, d8]) rfl ?_
  refine ⟨f2, c2, rfl, ?_, ?_, ?_⟩
  · repeat' (first | with_reducible exact T4.out | with_reducible refine BoxAt.other ?_ _ _ (by show tb ≠ G; omega))
  · repeat' (first | with_reducible exact O4.out | with_reducible refine OwnI.otherN ?_ _ _ hN4.out)
  · repeat' (first | with_reducible exact K4.out | with_reducible refine Kept.high ?_ _ _ (by show B ≤ G; omega) (by show tb ≤ G; omega))
end
section
open Go.ChangeShapes Go.WideShapes Go.ChangeAt Go.RowKit Go.Deep

/-- Where a leaf leads to. -/
def arriveD (l : Nat) (st lv pg df : Int) (t : Atr) : Hit × Flt :=
  if hasB l (df + pg % cov lv) = true then (⟨df + pg % cov lv, 0, t, lv⟩, flt0) else (hit0, ⟨1, st, lv, false, pg⟩)
set_option maxRecDepth 100000 in
set_option maxHeartbeats 1600000 in
theorem arrive_any (f : Option Addr) (l c : Nat) (st lv pg fr : Int) (rd : Value) (dk df : Int) (dr dw dx da dn : Bool) (ds d0 : Int) (tb : Nat) (w : World) (hT : BoxAt w tb #[.slice f l c, .int .i64 st, .int .i64 lv, .int .i64 pg, .int .i64 fr, rd] 132) (h0 : 0 ≤ lv) (h1 : lv ≤ 3) (p0 : 0 ≤ pg) (f0 : 0 ≤ df) (f1 : df ≤ 4095) :
    Calls Tryz.prog 87 #[.pointer (some ⟨tb, 0, none⟩), .agg #[.int .i64 dk, .int .i64 df, .bool dr, .bool dw, .bool dx, .bool da, .bool dn, .int .i64 ds, .int .i64 d0]] w fun e w' => e = .returned (.tuple #[hitV (arriveD l st lv pg df ⟨dr, dw, dx, da, dn, ds⟩).1, fltV (arriveD l st lv pg df ⟨dr, dw, dx, da, dn, ds⟩).2]) ∧ Below w.heap.size w w' := by
  have HC := Lib.hid (fun W => within_spot st lv pg W h0 h1 p0)
  unfold arriveD
  have HH := Lib.hid (fun W => has_any f l c (df + pg % cov lv) W)
  have d2 : 0 ≤ pg % cov lv := Int.emod_nonneg _ (by have := cov_pos lv; omega)
  have d3 : pg % cov lv < 512 := by have := Int.emod_lt_of_pos pg (show 0 < cov lv by have := cov_pos lv; omega); have := cov_pos lv; omega
  have d5 : IntKind.i64.wrap (df + pg % cov lv) = df + pg % cov lv := IntWalk.i64_in _ (by omega)
  generalize pg % cov lv = pm at *
  have htl : tb < w.heap.size := hT.lt
  have hne1 : tb ≠ w.heap.size + 1 := by omega
  have hne2 : tb ≠ w.heap.size + 1 + 1 := by omega
  have T0 := Lib.hid (((hT.alloc (.cells #[.int .i64 dk, .int .i64 df, .bool dr, .bool dw, .bool dx, .bool da, .bool dn, .int .i64 ds, .int .i64 d0] 70)).alloc (.cells z9 40)).alloc (.cells z5 42))
  have M0 := Lib.hid (((BoxAt.new w #[.int .i64 dk, .int .i64 df, .bool dr, .bool dw, .bool dx, .bool da, .bool dn, .int .i64 ds, .int .i64 d0] 70).alloc (.cells z9 40)).alloc (.cells z5 42))
  have H0 := Lib.hid ((BoxAt.newAt (w.alloc (.cells #[.int .i64 dk, .int .i64 df, .bool dr, .bool dw, .bool dx, .bool da, .bool dn, .int .i64 ds, .int .i64 d0] 70)) z9 40 (w.heap.size + 1) (by simp)).alloc (.cells z5 42))
  have F0 := Lib.hid (BoxAt.newAt ((w.alloc (.cells #[.int .i64 dk, .int .i64 df, .bool dr, .bool dw, .bool dx, .bool da, .bool dn, .int .i64 ds, .int .i64 d0] 70)).alloc (.cells z9 40)) z5 42 (w.heap.size + 1 + 1) (by simp))
  have B0 := Lib.hid (bel_alloc (bel_alloc (bel_alloc (Below.refl w.heap.size w) (.cells #[.int .i64 dk, .int .i64 df, .bool dr, .bool dw, .bool dx, .bool da, .bool dn, .int .i64 ds, .int .i64 d0] 70)) (.cells z9 40)) (.cells z5 42))
  clear hT
  cases hb : hasB l (df + pm)
  · rw [hb] at HH
    clear hb
    go_enter Tryz.func87, Tryz.ntmps87
    go_upto_region 1 with fail
    obtain ⟨W0, hW0⟩ : ∃ W0, W0 = ((w.alloc (.cells #[.int .i64 dk, .int .i64 df, .bool dr, .bool dw, .bool dx, .bool da, .bool dn, .int .i64 ds, .int .i64 d0] 70)).alloc (.cells z9 40)).alloc (.cells z5 42) := ⟨_, rfl⟩
    rw [← hW0] at T0 M0 H0 F0 B0 ⊢
    clear hW0
    have Mc1 := M0.out.get 1 (.int .i64 df) rfl
    have Tc1 := T0.out.get 1 (.int .i64 st) rfl
    have Tc2 := T0.out.get 2 (.int .i64 lv) rfl
    have Tc3 := T0.out.get 3 (.int .i64 pg) rfl
    go_region_held3 (fun w' => w'.cell? ⟨w.heap.size, 1, none⟩ = some (.int .i64 df) ∧ w'.cell? ⟨tb, 1, none⟩ = some (.int .i64 st) ∧ w'.cell? ⟨tb, 2, none⟩ = some (.int .i64 lv) ∧ w'.cell? ⟨tb, 3, none⟩ = some (.int .i64 pg))
      (refine ⟨?_, ?_, ?_, ?_⟩ <;> (first | exact Mc1 | exact Tc1 | exact Tc2 | exact Tc3 | exact keepc hb17 Mc1 | exact keepc hb17 Tc1 | exact keepc hb17 Tc2 | exact keepc hb17 Tc3))
      ((go_at_call 99; refine (HC.out _).mono ?_; rintro e w17 ⟨rfl, hb17⟩))
    have T1 := Lib.hid ((T0.out.drew).below hb17)
    have M1 := Lib.hid ((M0.out.drew).below hb17)
    have H1 := Lib.hid ((H0.out.drew).below hb17)
    have F1 := Lib.hid ((F0.out.drew).below hb17)
    have B1 := Lib.hid (bel_trans (Below.drew B0.out) hb17)
    clear Mc1 Tc1 Tc2 Tc3
    clear T0 M0 H0 F0 B0 hb17
    have Tc0 := T1.out.get 0 (.slice f l c) rfl
    go_wp2_with fail
    refine (HH.out _).mono ?_
    rintro e w2 ⟨rfl, hb2⟩
    have T3 := Lib.hid (T1.out.below hb2)
    have M3 := Lib.hid (M1.out.below hb2)
    have H3 := Lib.hid (H1.out.below hb2)
    have F3 := Lib.hid (F1.out.below hb2)
    have B3 := Lib.hid (bel_trans B1.out hb2)
    clear Tc0
    clear T1 M1 H1 F1 B1 hb2
    have Tc1 := T3.out.get 1 (.int .i64 st) rfl
    have Tc2 := T3.out.get 2 (.int .i64 lv) rfl
    have Tc3 := T3.out.get 3 (.int .i64 pg) rfl
    go_wp2_with fail
    refine (fault_any _ _ _ _ _).mono ?_
    rintro e w4 ⟨rfl, hb4⟩
    have T5 := Lib.hid (T3.out.below hb4)
    have M5 := Lib.hid (M3.out.below hb4)
    have H5 := Lib.hid (H3.out.below hb4)
    have F5 := Lib.hid (F3.out.below hb4)
    have B5 := Lib.hid (bel_trans B3.out hb4)
    clear Tc1 Tc2 Tc3
    clear T3 M3 H3 F3 B3 hb4
    unfold fltV
    have Hc0 := H5.out.get 0 (.int .i64 0) rfl
    have Hc1 := H5.out.get 1 (.int .i64 0) rfl
    have Hc2 := H5.out.get 2 (.bool false) rfl
    have Hc3 := H5.out.get 3 (.bool false) rfl
    have Hc4 := H5.out.get 4 (.bool false) rfl
    have Hc5 := H5.out.get 5 (.bool false) rfl
    have Hc6 := H5.out.get 6 (.bool false) rfl
    have Hc7 := H5.out.get 7 (.int .i64 0) rfl
    have Hc8 := H5.out.get 8 (.int .i64 0) rfl
    have Hz0 := H5.out.free 0
    have Hz1 := H5.out.free 1
    have Hz2 := H5.out.free 2
    have Hz3 := H5.out.free 3
    have Hz4 := H5.out.free 4
    have Hz5 := H5.out.free 5
    have Hz6 := H5.out.free 6
    have Hz7 := H5.out.free 7
    have Hz8 := H5.out.free 8
    have Fc0 := F5.out.get 0 (.int .i64 0) rfl
    have Fc1 := F5.out.get 1 (.int .i64 0) rfl
    have Fc2 := F5.out.get 2 (.int .i64 0) rfl
    have Fc3 := F5.out.get 3 (.bool false) rfl
    have Fc4 := F5.out.get 4 (.int .i64 0) rfl
    have Fz0 := F5.out.free 0
    have Fz1 := F5.out.free 1
    have Fz2 := F5.out.free 2
    have Fz3 := F5.out.free 3
    have Fz4 := F5.out.free 4
    go_wp2
    refine bodyPost_ret (v := .tuple #[.agg #[.int .i64 0, .int .i64 0, .bool false, .bool false, .bool false, .bool false, .bool false, .int .i64 0, .int .i64 0], .agg #[.int .i64 1, .int .i64 st, .int .i64 lv, .bool false, .int .i64 pg]]) (by simp [results, Tryz.results87, go_sem, Hc0, Hc1, Hc2, Hc3, Hc4, Hc5, Hc6, Hc7, Hc8, Fc0, Fc1, Fc2, Fc3, Fc4]) rfl ⟨rfl, ?_⟩
    repeat' (first | with_reducible exact B5.out | with_reducible refine Below.setCell ?_ (by first | (simp; done) | (simp; omega)) _ | with_reducible refine Below.drew ?_)
  · rw [hb] at HH
    clear hb
    go_enter Tryz.func87, Tryz.ntmps87
    go_upto_region 1 with fail
    obtain ⟨W0, hW0⟩ : ∃ W0, W0 = ((w.alloc (.cells #[.int .i64 dk, .int .i64 df, .bool dr, .bool dw, .bool dx, .bool da, .bool dn, .int .i64 ds, .int .i64 d0] 70)).alloc (.cells z9 40)).alloc (.cells z5 42) := ⟨_, rfl⟩
    rw [← hW0] at T0 M0 H0 F0 B0 ⊢
    clear hW0
    have Mc1 := M0.out.get 1 (.int .i64 df) rfl
    have Tc1 := T0.out.get 1 (.int .i64 st) rfl
    have Tc2 := T0.out.get 2 (.int .i64 lv) rfl
    have Tc3 := T0.out.get 3 (.int .i64 pg) rfl
    go_region_held3 (fun w' => w'.cell? ⟨w.heap.size, 1, none⟩ = some (.int .i64 df) ∧ w'.cell? ⟨tb, 1, none⟩ = some (.int .i64 st) ∧ w'.cell? ⟨tb, 2, none⟩ = some (.int .i64 lv) ∧ w'.cell? ⟨tb, 3, none⟩ = some (.int .i64 pg))
      (refine ⟨?_, ?_, ?_, ?_⟩ <;> (first | exact Mc1 | exact Tc1 | exact Tc2 | exact Tc3 | exact keepc hb17 Mc1 | exact keepc hb17 Tc1 | exact keepc hb17 Tc2 | exact keepc hb17 Tc3))
      ((go_at_call 99; refine (HC.out _).mono ?_; rintro e w17 ⟨rfl, hb17⟩))
    have T1 := Lib.hid ((T0.out.drew).below hb17)
    have M1 := Lib.hid ((M0.out.drew).below hb17)
    have H1 := Lib.hid ((H0.out.drew).below hb17)
    have F1 := Lib.hid ((F0.out.drew).below hb17)
    have B1 := Lib.hid (bel_trans (Below.drew B0.out) hb17)
    clear Mc1 Tc1 Tc2 Tc3
    clear T0 M0 H0 F0 B0 hb17
    have Tc0 := T1.out.get 0 (.slice f l c) rfl
    go_wp2_with fail
    refine (HH.out _).mono ?_
    rintro e w2 ⟨rfl, hb2⟩
    have T3 := Lib.hid (T1.out.below hb2)
    have M3 := Lib.hid (M1.out.below hb2)
    have H3 := Lib.hid (H1.out.below hb2)
    have F3 := Lib.hid (F1.out.below hb2)
    have B3 := Lib.hid (bel_trans B1.out hb2)
    clear Tc0
    clear T1 M1 H1 F1 B1 hb2
    have Tc2 := T3.out.get 2 (.int .i64 lv) rfl
    have Mc2 := M3.out.get 2 (.bool dr) rfl
    have Mc3 := M3.out.get 3 (.bool dw) rfl
    have Mc4 := M3.out.get 4 (.bool dx) rfl
    have Mc5 := M3.out.get 5 (.bool da) rfl
    have Mc6 := M3.out.get 6 (.bool dn) rfl
    have Mc7 := M3.out.get 7 (.int .i64 ds) rfl
    have Hc0 := H3.out.get 0 (.int .i64 0) rfl
    have Hc1 := H3.out.get 1 (.int .i64 0) rfl
    have Hc2 := H3.out.get 2 (.bool false) rfl
    have Hc3 := H3.out.get 3 (.bool false) rfl
    have Hc4 := H3.out.get 4 (.bool false) rfl
    have Hc5 := H3.out.get 5 (.bool false) rfl
    have Hc6 := H3.out.get 6 (.bool false) rfl
    have Hc7 := H3.out.get 7 (.int .i64 0) rfl
    have Hc8 := H3.out.get 8 (.int .i64 0) rfl
    have Hz0 := H3.out.free 0
    have Hz1 := H3.out.free 1
    have Hz2 := H3.out.free 2
    have Hz3 := H3.out.free 3
    have Hz4 := H3.out.free 4
    have Hz5 := H3.out.free 5
    have Hz6 := H3.out.free 6
    have Hz7 := H3.out.free 7
    have Hz8 := H3.out.free 8
    have Fc0 := F3.out.get 0 (.int .i64 0) rfl
    have Fc1 := F3.out.get 1 (.int .i64 0) rfl
    have Fc2 := F3.out.get 2 (.int .i64 0) rfl
    have Fc3 := F3.out.get 3 (.bool false) rfl
    have Fc4 := F3.out.get 4 (.int .i64 0) rfl
    have Fz0 := F3.out.free 0
    have Fz1 := F3.out.free 1
    have Fz2 := F3.out.free 2
    have Fz3 := F3.out.free 3
    have Fz4 := F3.out.free 4
    go_wp2_with fail
    go_region_held3 (fun w' => w'.cell? ⟨w.heap.size, 2, none⟩ = some (.bool dr) ∧ w'.cell? ⟨w.heap.size, 3, none⟩ = some (.bool dw) ∧ w'.cell? ⟨w.heap.size, 4, none⟩ = some (.bool dx) ∧ w'.cell? ⟨w.heap.size, 5, none⟩ = some (.bool da) ∧ w'.cell? ⟨w.heap.size, 6, none⟩ = some (.bool dn) ∧ w'.cell? ⟨w.heap.size, 7, none⟩ = some (.int .i64 ds) ∧ w'.cell? ⟨tb, 2, none⟩ = some (.int .i64 lv))
      (refine ⟨?_, ?_, ?_, ?_, ?_, ?_, ?_⟩ <;> (repeat (first | with_reducible assumption | with_reducible refine cell_keep ?_ _ | with_reducible refine cell_drew ?_ | with_reducible refine cell_set _ (by first | with_reducible assumption | (simp; done) | omega) ?_)))
      (first | fail)
    go_wp2
    refine bodyPost_ret (v := .tuple #[.agg #[.int .i64 (df + pm), .int .i64 0, .bool dr, .bool dw, .bool dx, .bool da, .bool dn, .int .i64 ds, .int .i64 lv], .agg #[.int .i64 0, .int .i64 0, .int .i64 0, .bool false, .int .i64 0]]) (by simp [results, Tryz.results87, go_sem, Hc0, Hc1, Hc2, Hc3, Hc4, Hc5, Hc6, Hc7, Hc8, Fc0, Fc1, Fc2, Fc3, Fc4]) rfl ⟨rfl, ?_⟩
    repeat' (first | with_reducible exact B3.out | with_reducible refine Below.setCell ?_ (by first | (simp; done) | (simp; omega)) _ | with_reducible refine Below.drew ?_)

def lvm (tb : Nat) (w : World) : Nat := match w.cell? ⟨tb, 2, none⟩ with
  | some v => (4 - intOf v).toNat
  | none => 0
theorem lvm_of {tb : Nat} {w : World} {a b d e g : Value} {lv : Int} (h : BoxAt w tb #[a, b, .int .i64 lv, d, e, g] 132) : lvm tb w = (4 - lv).toNat := by
  unfold lvm
  rw [h.get 2 (.int .i64 lv) rfl]
  rfl
/-- What a whole trip leaves. -/
def TripEnd (tb : Nat) (w : World) (q : Hit × Flt × List Int) (e : Ending) (w' : World) : Prop :=
  ∃ f2 c2 v0 v1 v2 v3 v4, e = .returned (.tuple #[hitV q.1, fltV q.2.1]) ∧ BoxAt w' tb #[v0, v1, v2, v3, v4, .slice f2 q.2.2.length c2] 132 ∧ OwnI w' w.heap.size (.slice f2 q.2.2.length c2) q.2.2 ∧ Kept tb w.heap.size w w'
theorem TripEnd.mk' {tb : Nat} {w w' : World} {q : Hit × Flt × List Int} {hh : Hit} {ff : Flt} {R : List Int} {e : Ending} {f2 : Option Addr} {c2 n b : Nat} {v0 v1 v2 v3 v4 : Value} (hq : q = (hh, ff, R)) (he : e = .returned (.tuple #[hitV hh, fltV ff])) (hn : n = R.length) (ht : BoxAt w' tb #[v0, v1, v2, v3, v4, .slice f2 n c2] 132) (ho : OwnI w' b (.slice f2 n c2) R) (hb : w.heap.size ≤ b) (hK : Kept tb w.heap.size w w') : TripEnd tb w q e w' := by
  subst hq hn
  exact ⟨f2, c2, v0, v1, v2, v3, v4, he, ht, ho.mono hb, hK⟩
set_option maxRecDepth 100000 in
set_option maxHeartbeats 3200000 in
theorem end_any (f : Option Addr) (l c : Nat) (X : Nat → BitVec 64) (st pg fr : Int) (tb : Nat) (w0 w : World) (hX : WordsAt w0 f l X) (hM : okM l = true) (hst : st = 1 ∨ st = 2) (p0 : 0 ≤ pg) (p1 : pg ≤ 4095) (f0 : 0 ≤ fr) (f1 : fr ≤ 4095)
    (hB0 : Below w0.heap.size w0 w) (h0 : w0.heap.size ≤ tb) (hT : BoxAt w tb #[.slice f l c, .int .i64 st, .int .i64 0, .int .i64 pg, .int .i64 fr, .slice none 0 0] 132) :
    Calls Tryz.prog 76 #[.pointer (some ⟨tb, 0, none⟩)] w (TripEnd tb w (walkD l X st fr pg)) := by
  obtain ⟨l0, l1, l2⟩ := okM_true hM
  obtain ⟨T, hT'⟩ : ∃ T : Int → Int → Dsc, T = fun lv f => tblD X st lv f pg := ⟨_, rfl⟩
  have HT := Lib.hid (fun lv f => congrFun (congrFun hT' lv) f)
  have HK := Lib.hid (show ∀ lv f, (T lv f).k = 0 ∨ ((T lv f).k = 1 ∧ lv ≠ 3) ∨ (T lv f).k = 2 from by rw [hT']; exact fun lv f => tbl_kind X st lv f pg)
  have HF := Lib.hid (show ∀ lv f, 0 ≤ (T lv f).f ∧ (T lv f).f ≤ 4095 from by rw [hT']; exact fun lv f => tbl_frame X st lv f pg)
  obtain ⟨q, hq⟩ : ∃ q, q = walkD l X st fr pg := ⟨_, rfl⟩
  rw [← hq]
  have HQ := Lib.hid (show walkS ((l : Int) / 8) T st pg (4 - (0 : Int)).toNat 0 fr [] = q from by rw [hq, hT']; rfl)
  clear hq hT'
  have HH := Lib.hid (show ∀ x : Int, 0 ≤ x → hasB l x = !decide ((l : Int) / 8 ≤ x) from by
    intro x hx
    unfold hasB framesB
    rw [if_pos hM, decide_eq_true hx, Bool.true_and]
    by_cases hlt : x < (l : Int) / 8
    · rw [decide_eq_true hlt, decide_eq_false (by omega)]; rfl
    · rw [decide_eq_false hlt, decide_eq_true (by omega)]; rfl)
  have HL := Lib.hid (fun lv (h0 : 0 ≤ lv) (h1 : lv ≤ 3) fr (f0 : 0 ≤ fr) (f1 : fr < (l : Int) / 8) f' c' R W => look_any f l c X st lv pg fr f' c' R tb (w.heap.size + 2) w0 W hX hM (placeB_iff.2 ⟨hst, h0, h1⟩) p0 p1 f0 f1)
  have HTH := Lib.hid (fun lv fr W => there_any f l c st lv pg fr W)
  have HG := Lib.hid (fun lv fr nx rd W h0 h1 hT => goTo_any f l c st lv pg fr nx rd tb W hT h0 h1)
  have HA := Lib.hid (fun lv fr rd dk df dr dw dx da dn ds d0 W h0 h1 f0 f1 hT => arrive_any f l c st lv pg fr rd dk df dr dw dx da dn ds d0 tb W hT h0 h1 p0 f0 f1)
  have hN0 : 1 ≤ (l : Int) / 8 := by omega
  have hN1 : (l : Int) / 8 ≤ 64 := by omega
  have htl : tb < w.heap.size := hT.lt
  have AR : ∀ lv df at', arriveD l st lv pg df at' = if hasB l (df + pg % cov lv) = true then (⟨df + pg % cov lv, 0, at', lv⟩, flt0) else (hit0, ⟨1, st, lv, false, pg⟩) := fun _ _ _ => rfl
  have HAR := Lib.hid AR
  clear AR
  have HP0 := Lib.hid (fun lv => (Int.emod_nonneg pg (show cov lv ≠ 0 by have := cov_pos lv; omega)))
  generalize (l : Int) / 8 = N at *
  have HB0 := Lib.hid hB0
  have T0 := Lib.hid ((hT.alloc (.cells z9 40)).alloc (.cells z5 42))
  have H0 := Lib.hid ((BoxAt.new w z9 40).alloc (.cells z5 42))
  have F0 := Lib.hid (BoxAt.newAt (w.alloc (.cells z9 40)) z5 42 (w.heap.size + 1) (by simp))
  have K0 := Lib.hid (Kept.of (bel_alloc (bel_alloc (Below.refl w.heap.size w) (.cells z9 40)) (.cells z5 42)) (show tb ≤ w.heap.size by omega))
  clear hX hM hst hT hB0 l0 l1 l2
  have hneH : tb ≠ w.heap.size := by omega
  have hneF : tb ≠ w.heap.size + 1 := by omega
  go_enter Tryz.func76, Tryz.ntmps76
  go_wp2
  obtain ⟨W0, hW0⟩ : ∃ W0, W0 = (w.alloc (.cells z9 40)).alloc (.cells z5 42) := ⟨_, rfl⟩
  rw [← hW0] at T0 H0 F0 K0 ⊢
  clear hW0
  go_loopw [] (fun wr => ∃ (lv fr : Int) (R : List Int) (f' : Option Addr) (c' : Nat), 0 ≤ lv ∧ lv ≤ 3 ∧ 0 ≤ fr ∧ fr ≤ 4095 ∧ R.length ≤ 4 ∧ Hid ((R.length : Int) = lv) ∧ Hid (BoxAt wr tb #[.slice f l c, .int .i64 st, .int .i64 lv, .int .i64 pg, .int .i64 fr, .slice f' R.length c'] 132) ∧ Hid (BoxAt wr (w.heap.size) z9 40) ∧ Hid (BoxAt wr (w.heap.size + 1) z5 42) ∧ Hid (OwnI wr (w.heap.size + 2) (.slice f' R.length c') R) ∧ Hid (Kept tb w.heap.size w wr) ∧ Hid (walkS N T st pg (4 - lv).toNat lv fr R = q)) (fun wr => lvm tb wr)
  case atStart => exact ⟨0, fr, [], none, 0, by decide, by decide, f0, f1, by decide, rfl, T0.out, H0.out, F0.out, OwnI.nil _ _, K0.out, HQ.out⟩
  case round =>
    clear HQ T0 H0 F0 K0 f0 f1
    obtain ⟨lv, fr, R, f', c', v0, v1, g0, g1, hRl, HR, T1, H1, F1, O1, K1, HQ⟩ := hrel
    have hn : (4 - lv).toNat = (4 - (lv + 1)).toNat + 1 := by omega
    rw [hn] at HQ
    clear hn
    have hF1 := F1.out.lt
    have hHas := HH.out fr g0
    by_cases hA : N ≤ fr
    · rw [decide_eq_true hA, Bool.not_true] at hHas
      have HE := Lib.hid ((walkS_size hA).symm.trans HQ.out)
      have t0 := T1.out.get 0 (.slice f l c) rfl
      have t1 := T1.out.get 1 (.int .i64 st) rfl
      have t2 := T1.out.get 2 (.int .i64 lv) rfl
      have t3 := T1.out.get 3 (.int .i64 pg) rfl
      have t4 := T1.out.get 4 (.int .i64 fr) rfl
      go_wp2_with fail
      refine (HTH.out _ _ _).mono ?_
      rintro e w2 ⟨rfl, hb2⟩
      rw [hHas]
      have T2 := Lib.hid (T1.out.below hb2)
      have H2 := Lib.hid (H1.out.below hb2)
      have F2 := Lib.hid (F1.out.below hb2)
      have O2 := Lib.hid (O1.out.below hb2)
      have K2 := Lib.hid (K1.out.step hb2 (by omega) (by omega))
      have hF2 := F2.out.lt
      clear t0 t1 t2 t3 t4 T1 H1 F1 O1 K1 hb2
      have t1 := T2.out.get 1 (.int .i64 st) rfl
      have t2 := T2.out.get 2 (.int .i64 lv) rfl
      have t3 := T2.out.get 3 (.int .i64 pg) rfl
      go_wp2_with fail
      refine (fault_any _ _ _ _ _).mono ?_
      rintro e w3 ⟨rfl, hb3⟩
      unfold fltV
      have T3 := Lib.hid (T2.out.below hb3)
      have H3 := Lib.hid (H2.out.below hb3)
      have F3 := Lib.hid (F2.out.below hb3)
      have O3 := Lib.hid (O2.out.below hb3)
      have K3 := Lib.hid (K2.out.step hb3 (by omega) (by omega))
      clear t1 t2 t3 T2 H2 F2 O2 K2 hb3
      have Hc0 := H3.out.get 0 (.int .i64 0) rfl
      have Hz0 := H3.out.free 0
      have Hc1 := H3.out.get 1 (.int .i64 0) rfl
      have Hz1 := H3.out.free 1
      have Hc2 := H3.out.get 2 (.bool false) rfl
      have Hz2 := H3.out.free 2
      have Hc3 := H3.out.get 3 (.bool false) rfl
      have Hz3 := H3.out.free 3
      have Hc4 := H3.out.get 4 (.bool false) rfl
      have Hz4 := H3.out.free 4
      have Hc5 := H3.out.get 5 (.bool false) rfl
      have Hz5 := H3.out.free 5
      have Hc6 := H3.out.get 6 (.bool false) rfl
      have Hz6 := H3.out.free 6
      have Hc7 := H3.out.get 7 (.int .i64 0) rfl
      have Hz7 := H3.out.free 7
      have Hc8 := H3.out.get 8 (.int .i64 0) rfl
      have Hz8 := H3.out.free 8
      have Fc0 := F3.out.get 0 (.int .i64 0) rfl
      have Fz0 := F3.out.free 0
      have Fc1 := F3.out.get 1 (.int .i64 0) rfl
      have Fz1 := F3.out.free 1
      have Fc2 := F3.out.get 2 (.int .i64 0) rfl
      have Fz2 := F3.out.free 2
      have Fc3 := F3.out.get 3 (.bool false) rfl
      have Fz3 := F3.out.free 3
      have Fc4 := F3.out.get 4 (.int .i64 0) rfl
      have Fz4 := F3.out.free 4
      go_wp2
      refine bodyPost_ret (v := .tuple #[.agg #[.int .i64 0, .int .i64 0, .bool false, .bool false, .bool false, .bool false, .bool false, .int .i64 0, .int .i64 0], .agg #[.int .i64 1, .int .i64 st, .int .i64 lv, .bool false, .int .i64 pg]]) (by simp [results, Tryz.results76, go_sem, Hc0, Hc1, Hc2, Hc3, Hc4, Hc5, Hc6, Hc7, Hc8, Fc0, Fc1, Fc2, Fc3, Fc4]) rfl ?_
      refine TripEnd.mk' HE.out.symm (hh := hit0) (ff := ⟨1, st, lv, false, pg⟩) (R := R) rfl (by first | rfl | simp) (n := R.length) (f2 := f') (c2 := c') (v0 := .slice f l c) (v1 := .int .i64 st) (v2 := .int .i64 lv) (v3 := .int .i64 pg) (v4 := .int .i64 fr) (b := w.heap.size + 2) ?_ ?_ (by omega) ?_
      · repeat' (first | with_reducible exact T3.out | with_reducible refine BoxAt.other ?_ _ _ (by first | with_reducible exact hneH | with_reducible exact hneF))
      · repeat' (first | with_reducible exact O3.out | with_reducible refine OwnI.other ?_ _ _ (by first | (simp; done) | (simp; omega)))
      · repeat' (first | with_reducible exact K3.out | with_reducible refine Kept.high ?_ _ _ (by first | (simp; done) | (simp; omega)) (by first | (simp; omega) | omega))
    · rw [decide_eq_false hA, Bool.not_false] at hHas
      have hA' := Lib.hid (show ¬ N ≤ fr by omega)
      have hlv1 := Lib.hid (lvm_of T1.out)
      have t0 := T1.out.get 0 (.slice f l c) rfl
      have t1 := T1.out.get 1 (.int .i64 st) rfl
      have t2 := T1.out.get 2 (.int .i64 lv) rfl
      have t3 := T1.out.get 3 (.int .i64 pg) rfl
      have t4 := T1.out.get 4 (.int .i64 fr) rfl
      go_wp2_with fail
      refine (HTH.out _ _ _).mono ?_
      rintro e w2 ⟨rfl, hb2⟩
      rw [hHas]
      have T2 := Lib.hid (T1.out.below hb2)
      have H2 := Lib.hid (H1.out.below hb2)
      have F2 := Lib.hid (F1.out.below hb2)
      have O2 := Lib.hid (O1.out.below hb2)
      have K2 := Lib.hid (K1.out.step hb2 (by omega) (by omega))
      have hF2 := F2.out.lt
      clear t0 t1 t2 t3 t4 T1 H1 F1 O1 K1 hb2
      go_wp2_with fail
      refine (HL.out lv v0 v1 fr g0 (by omega) f' c' R _ (K2.out.under HB0.out h0) h0 T2.out (by omega) (by omega) O2.out (by omega)).mono ?_
      rintro e w3 ⟨f2, c2, rfl, hT3, hO3, hK3⟩
      have T3 := Lib.hid hT3
      have O3 := Lib.hid hO3
      have H3 := Lib.hid (hK3.box H2.out (show w.heap.size < w.heap.size + 2 by omega) (Ne.symm hneH))
      have F3 := Lib.hid (hK3.box F2.out (show w.heap.size + 1 < w.heap.size + 2 by omega) (Ne.symm hneF))
      have K3 := Lib.hid (K2.out.trans (hK3.mono (show w.heap.size ≤ w.heap.size + 2 by omega)))
      have hF3 := F3.out.lt
      clear hT3 hO3 hK3 T2 H2 F2 O2 K2 hF2 hF1
      rw [← HT.out lv fr]
      have hkd := HK.out lv fr
      have hfd := HF.out lv fr
      obtain ⟨d, hd⟩ : ∃ d, T lv fr = d := ⟨_, rfl⟩
      rw [hd] at hkd hfd
      rw [hd]
      rcases hkd with hkd | ⟨hkd, h3⟩ | hkd
      · have HE := Lib.hid ((walkS_none (by have := hA'.out; omega) (by rw [hd]; exact hkd)).symm.trans HQ.out)
        obtain ⟨dk, df, dr, dw, dx, da, dn, ds, d0⟩ := d
        have hkk : dk = 0 := hkd
        clear hkd
        subst hkk
        unfold dscV
        simp only
        have T8 := Lib.hid (T3.out.alloc (.cells #[.int .i64 0, .int .i64 df, .bool dr, .bool dw, .bool dx, .bool da, .bool dn, .int .i64 ds, .int .i64 d0] 70))
        have H8 := Lib.hid (H3.out.alloc (.cells #[.int .i64 0, .int .i64 df, .bool dr, .bool dw, .bool dx, .bool da, .bool dn, .int .i64 ds, .int .i64 d0] 70))
        have F8 := Lib.hid (F3.out.alloc (.cells #[.int .i64 0, .int .i64 df, .bool dr, .bool dw, .bool dx, .bool da, .bool dn, .int .i64 ds, .int .i64 d0] 70))
        have O8 := Lib.hid (O3.out.alloc (.cells #[.int .i64 0, .int .i64 df, .bool dr, .bool dw, .bool dx, .bool da, .bool dn, .int .i64 ds, .int .i64 d0] 70))
        have K8 := Lib.hid (K3.out.step (bel_alloc (Below.refl _ _) (.cells #[.int .i64 0, .int .i64 df, .bool dr, .bool dw, .bool dx, .bool da, .bool dn, .int .i64 ds, .int .i64 d0] 70)) (by omega) (by omega))
        have hF8 := F8.out.lt
        clear T3 H3 F3 O3 K3
        go_upto_region 4 with fail
        obtain ⟨W8, hW8⟩ : ∃ W8, W8 = w3.alloc (.cells #[.int .i64 0, .int .i64 df, .bool dr, .bool dw, .bool dx, .bool da, .bool dn, .int .i64 ds, .int .i64 d0] 70) := ⟨_, rfl⟩
        rw [← hW8] at T8 H8 F8 O8 K8 hF8 ⊢
        clear hW8
        have t1 := T8.out.get 1 (.int .i64 st) rfl
        have t2 := T8.out.get 2 (.int .i64 lv) rfl
        have t3 := T8.out.get 3 (.int .i64 pg) rfl
        go_wp2_with fail
        refine (fault_any _ _ _ _ _).mono ?_
        rintro e w9 ⟨rfl, hb9⟩
        unfold fltV
        have T9 := Lib.hid (T8.out.below hb9)
        have H9 := Lib.hid (H8.out.below hb9)
        have F9 := Lib.hid (F8.out.below hb9)
        have O9 := Lib.hid (O8.out.below hb9)
        have K9 := Lib.hid (K8.out.step hb9 (by omega) (by omega))
        clear t1 t2 t3 T8 H8 F8 O8 K8 hb9
        have Hc0 := H9.out.get 0 (.int .i64 0) rfl
        have Hz0 := H9.out.free 0
        have Hc1 := H9.out.get 1 (.int .i64 0) rfl
        have Hz1 := H9.out.free 1
        have Hc2 := H9.out.get 2 (.bool false) rfl
        have Hz2 := H9.out.free 2
        have Hc3 := H9.out.get 3 (.bool false) rfl
        have Hz3 := H9.out.free 3
        have Hc4 := H9.out.get 4 (.bool false) rfl
        have Hz4 := H9.out.free 4
        have Hc5 := H9.out.get 5 (.bool false) rfl
        have Hz5 := H9.out.free 5
        have Hc6 := H9.out.get 6 (.bool false) rfl
        have Hz6 := H9.out.free 6
        have Hc7 := H9.out.get 7 (.int .i64 0) rfl
        have Hz7 := H9.out.free 7
        have Hc8 := H9.out.get 8 (.int .i64 0) rfl
        have Hz8 := H9.out.free 8
        have Fc0 := F9.out.get 0 (.int .i64 0) rfl
        have Fz0 := F9.out.free 0
        have Fc1 := F9.out.get 1 (.int .i64 0) rfl
        have Fz1 := F9.out.free 1
        have Fc2 := F9.out.get 2 (.int .i64 0) rfl
        have Fz2 := F9.out.free 2
        have Fc3 := F9.out.get 3 (.bool false) rfl
        have Fz3 := F9.out.free 3
        have Fc4 := F9.out.get 4 (.int .i64 0) rfl
        have Fz4 := F9.out.free 4
        go_wp2
        refine bodyPost_ret (v := .tuple #[.agg #[.int .i64 0, .int .i64 0, .bool false, .bool false, .bool false, .bool false, .bool false, .int .i64 0, .int .i64 0], .agg #[.int .i64 2, .int .i64 st, .int .i64 lv, .bool false, .int .i64 pg]]) (by simp [results, Tryz.results76, go_sem, Hc0, Hc1, Hc2, Hc3, Hc4, Hc5, Hc6, Hc7, Hc8, Fc0, Fc1, Fc2, Fc3, Fc4]) rfl ?_
        refine TripEnd.mk' HE.out.symm (hh := hit0) (ff := ⟨2, st, lv, false, pg⟩) (R := R ++ [fr]) rfl (by first | rfl | simp) (n := (R.length + 1)) (f2 := f2) (c2 := c2) (v0 := .slice f l c) (v1 := .int .i64 st) (v2 := .int .i64 lv) (v3 := .int .i64 pg) (v4 := .int .i64 fr) (b := w.heap.size + 2) ?_ ?_ (by omega) ?_
        · repeat' (first | with_reducible exact T9.out | with_reducible refine BoxAt.other ?_ _ _ (by first | with_reducible exact hneH | with_reducible exact hneF))
        · repeat' (first | with_reducible exact O9.out | with_reducible refine OwnI.other ?_ _ _ (by first | (simp; done) | (simp; omega)))
        · repeat' (first | with_reducible exact K9.out | with_reducible refine Kept.high ?_ _ _ (by first | (simp; done) | (simp; omega)) (by first | (simp; omega) | omega))
      · have HE := Lib.hid ((walkS_table (by have := hA'.out; omega) (by rw [hd]; exact hkd)).symm.trans HQ.out)
        rw [hd] at HE
        obtain ⟨dk, df, dr, dw, dx, da, dn, ds, d0⟩ := d
        have hkk : dk = 1 := hkd
        clear hkd
        subst hkk
        unfold dscV
        simp only
        simp only at HE hfd
        have T8 := Lib.hid (T3.out.alloc (.cells #[.int .i64 1, .int .i64 df, .bool dr, .bool dw, .bool dx, .bool da, .bool dn, .int .i64 ds, .int .i64 d0] 70))
        have H8 := Lib.hid (H3.out.alloc (.cells #[.int .i64 1, .int .i64 df, .bool dr, .bool dw, .bool dx, .bool da, .bool dn, .int .i64 ds, .int .i64 d0] 70))
        have F8 := Lib.hid (F3.out.alloc (.cells #[.int .i64 1, .int .i64 df, .bool dr, .bool dw, .bool dx, .bool da, .bool dn, .int .i64 ds, .int .i64 d0] 70))
        have O8 := Lib.hid (O3.out.alloc (.cells #[.int .i64 1, .int .i64 df, .bool dr, .bool dw, .bool dx, .bool da, .bool dn, .int .i64 ds, .int .i64 d0] 70))
        have K8 := Lib.hid (K3.out.step (bel_alloc (Below.refl _ _) (.cells #[.int .i64 1, .int .i64 df, .bool dr, .bool dw, .bool dx, .bool da, .bool dn, .int .i64 ds, .int .i64 d0] 70)) (by omega) (by omega))
        have hF8 := F8.out.lt
        clear T3 H3 F3 O3 K3
        go_wp2_with fail
        refine (HG.out lv fr df (.slice f2 (R.length + 1) c2) (w3.alloc (.cells #[.int .i64 1, .int .i64 df, .bool dr, .bool dw, .bool dx, .bool da, .bool dn, .int .i64 ds, .int .i64 d0] 70)) v0 v1 T8.out).mono ?_
        rintro e w9 ⟨rfl, rfl⟩
        have T9 := Lib.hid ((T8.out.set 2 (.int .i64 (lv + 1)) #[.slice f l c, .int .i64 st, .int .i64 (lv + 1), .int .i64 pg, .int .i64 fr, .slice f2 (R.length + 1) c2] rfl).set 4 (.int .i64 df) #[.slice f l c, .int .i64 st, .int .i64 (lv + 1), .int .i64 pg, .int .i64 df, .slice f2 (R.length + 1) c2] rfl)
        have H9 := Lib.hid ((H8.out.other ⟨tb, 2, none⟩ (.int .i64 (lv + 1)) (Ne.symm hneH)).other ⟨tb, 4, none⟩ (.int .i64 df) (Ne.symm hneH))
        have F9 := Lib.hid ((F8.out.other ⟨tb, 2, none⟩ (.int .i64 (lv + 1)) (Ne.symm hneF)).other ⟨tb, 4, none⟩ (.int .i64 df) (Ne.symm hneF))
        have O9 := Lib.hid ((O8.out.other ⟨tb, 2, none⟩ (.int .i64 (lv + 1)) (by show tb < _; omega)).other ⟨tb, 4, none⟩ (.int .i64 df) (by show tb < _; omega))
        have K9 := Lib.hid ((K8.out.set 2 (.int .i64 (lv + 1))).set 4 (.int .i64 df))
        go_wp2
        go_roundw
        case rel => exact ⟨lv + 1, df, R ++ [fr], f2, c2, by omega, by omega, hfd.1, hfd.2, by have := HR.out; simp; omega, by show ((R ++ [fr]).length : Int) = lv + 1; have := HR.out; simp; omega, by show BoxAt _ _ _ _; simpa using T9.out, H9.out, F9.out, by show OwnI _ _ _ _; simpa using O9.out, K9.out, HE⟩
        case measure => rw [lvm_of T9.out, hlv1.out]; omega
      · have hk2 : (T lv fr).k = 2 := by rw [hd]; exact hkd
        have HE : q = ((arriveD l st lv pg d.f d.at').1, (arriveD l st lv pg d.f d.at').2, R ++ [fr]) := by
          rw [HAR.out, HH.out _ (by have := HP0.out lv; have := hfd.1; omega)]
          by_cases hs : N ≤ (T lv fr).f + pg % cov lv
          · rw [← HQ.out, walkS_far (by have := hA'.out; omega) hk2 hs, ← hd, decide_eq_true hs]; rfl
          · rw [← HQ.out, walkS_leaf (by have := hA'.out; omega) hk2 hs, ← hd, decide_eq_false hs]; rfl
        have HE := Lib.hid HE
        clear hk2
        obtain ⟨dk, df, dr, dw, dx, da, dn, ds, d0⟩ := d
        have hkk : dk = 2 := hkd
        clear hkd
        subst hkk
        unfold dscV
        simp only
        simp only at hfd
        have T8 := Lib.hid (T3.out.alloc (.cells #[.int .i64 2, .int .i64 df, .bool dr, .bool dw, .bool dx, .bool da, .bool dn, .int .i64 ds, .int .i64 d0] 70))
        have H8 := Lib.hid (H3.out.alloc (.cells #[.int .i64 2, .int .i64 df, .bool dr, .bool dw, .bool dx, .bool da, .bool dn, .int .i64 ds, .int .i64 d0] 70))
        have F8 := Lib.hid (F3.out.alloc (.cells #[.int .i64 2, .int .i64 df, .bool dr, .bool dw, .bool dx, .bool da, .bool dn, .int .i64 ds, .int .i64 d0] 70))
        have O8 := Lib.hid (O3.out.alloc (.cells #[.int .i64 2, .int .i64 df, .bool dr, .bool dw, .bool dx, .bool da, .bool dn, .int .i64 ds, .int .i64 d0] 70))
        have K8 := Lib.hid (K3.out.step (bel_alloc (Below.refl _ _) (.cells #[.int .i64 2, .int .i64 df, .bool dr, .bool dw, .bool dx, .bool da, .bool dn, .int .i64 ds, .int .i64 d0] 70)) (by omega) (by omega))
        have hF8 := F8.out.lt
        clear T3 H3 F3 O3 K3
        go_upto_region 8 with fail
        obtain ⟨W8, hW8⟩ : ∃ W8, W8 = w3.alloc (.cells #[.int .i64 2, .int .i64 df, .bool dr, .bool dw, .bool dx, .bool da, .bool dn, .int .i64 ds, .int .i64 d0] 70) := ⟨_, rfl⟩
        have D8 := Lib.hid (BoxAt.new w3 #[.int .i64 2, .int .i64 df, .bool dr, .bool dw, .bool dx, .bool da, .bool dn, .int .i64 ds, .int .i64 d0] 70)
        rw [← hW8] at T8 H8 F8 O8 K8 D8 hF8 ⊢
        clear hW8
        have dd0 := D8.out.get 0 (.int .i64 2) rfl
        have dd1 := D8.out.get 1 (.int .i64 df) rfl
        have dd2 := D8.out.get 2 (.bool dr) rfl
        have dd3 := D8.out.get 3 (.bool dw) rfl
        have dd4 := D8.out.get 4 (.bool dx) rfl
        have dd5 := D8.out.get 5 (.bool da) rfl
        have dd6 := D8.out.get 6 (.bool dn) rfl
        have dd7 := D8.out.get 7 (.int .i64 ds) rfl
        have dd8 := D8.out.get 8 (.int .i64 d0) rfl
        go_wp2_with fail
        refine (HA.out lv fr (.slice f2 (R.length + 1) c2) 2 df dr dw dx da dn ds d0 _ v0 v1 hfd.1 hfd.2 T8.out).mono ?_
        rintro e w9 ⟨rfl, hb9⟩
        have HE : q = ((arriveD l st lv pg df ⟨dr, dw, dx, da, dn, ds⟩).1, (arriveD l st lv pg df ⟨dr, dw, dx, da, dn, ds⟩).2, R ++ [fr]) := HE.out
        have HE := Lib.hid HE
        generalize arriveD l st lv pg df ⟨dr, dw, dx, da, dn, ds⟩ = aq at *
        unfold hitV fltV
        have T9 := Lib.hid (T8.out.below hb9)
        have H9 := Lib.hid (H8.out.below hb9)
        have F9 := Lib.hid (F8.out.below hb9)
        have O9 := Lib.hid (O8.out.below hb9)
        have K9 := Lib.hid (K8.out.step hb9 (by omega) (by omega))
        clear dd0 dd1 dd2 dd3 dd4 dd5 dd6 dd7 dd8 D8 T8 H8 F8 O8 K8 hb9
        have Hc0 := H9.out.get 0 (.int .i64 0) rfl
        have Hz0 := H9.out.free 0
        have Hc1 := H9.out.get 1 (.int .i64 0) rfl
        have Hz1 := H9.out.free 1
        have Hc2 := H9.out.get 2 (.bool false) rfl
        have Hz2 := H9.out.free 2
        have Hc3 := H9.out.get 3 (.bool false) rfl
        have Hz3 := H9.out.free 3
        have Hc4 := H9.out.get 4 (.bool false) rfl
        have Hz4 := H9.out.free 4
        have Hc5 := H9.out.get 5 (.bool false) rfl
        have Hz5 := H9.out.free 5
        have Hc6 := H9.out.get 6 (.bool false) rfl
        have Hz6 := H9.out.free 6
        have Hc7 := H9.out.get 7 (.int .i64 0) rfl
        have Hz7 := H9.out.free 7
        have Hc8 := H9.out.get 8 (.int .i64 0) rfl
        have Hz8 := H9.out.free 8
        have Fc0 := F9.out.get 0 (.int .i64 0) rfl
        have Fz0 := F9.out.free 0
        have Fc1 := F9.out.get 1 (.int .i64 0) rfl
        have Fz1 := F9.out.free 1
        have Fc2 := F9.out.get 2 (.int .i64 0) rfl
        have Fz2 := F9.out.free 2
        have Fc3 := F9.out.get 3 (.bool false) rfl
        have Fz3 := F9.out.free 3
        have Fc4 := F9.out.get 4 (.int .i64 0) rfl
        have Fz4 := F9.out.free 4
        go_wp2
        refine bodyPost_ret (v := .tuple #[.agg #[.int .i64 aq.1.f, .int .i64 aq.1.m, .bool aq.1.t.r, .bool aq.1.t.w, .bool aq.1.t.x, .bool aq.1.t.a, .bool aq.1.t.n, .int .i64 aq.1.t.s, .int .i64 aq.1.l], .agg #[.int .i64 aq.2.k, .int .i64 aq.2.st, .int .i64 aq.2.lv, .bool aq.2.w, .int .i64 aq.2.p]]) (by simp [results, Tryz.results76, go_sem, Hc0, Hc1, Hc2, Hc3, Hc4, Hc5, Hc6, Hc7, Hc8, Fc0, Fc1, Fc2, Fc3, Fc4]) rfl ?_
        refine TripEnd.mk' HE.out (hh := aq.1) (ff := aq.2) (R := R ++ [fr]) rfl (by first | rfl | simp) (n := (R.length + 1)) (f2 := f2) (c2 := c2) (v0 := .slice f l c) (v1 := .int .i64 st) (v2 := .int .i64 lv) (v3 := .int .i64 pg) (v4 := .int .i64 fr) (b := w.heap.size + 2) ?_ ?_ (by omega) ?_
        · repeat' (first | with_reducible exact T9.out | with_reducible refine BoxAt.other ?_ _ _ (by first | with_reducible exact hneH | with_reducible exact hneF))
        · repeat' (first | with_reducible exact O9.out | with_reducible refine OwnI.other ?_ _ _ (by first | (simp; done) | (simp; omega)))
        · repeat' (first | with_reducible exact K9.out | with_reducible refine Kept.high ?_ _ _ (by first | (simp; done) | (simp; omega)) (by first | (simp; omega) | omega))

theorem walkMay_eq (l : Nat) (st fr pg : Int) : (tblMay l st 0 pg && numB fr 4095) = walkMay l st fr pg := by
  unfold tblMay walkMay placeB
  have : decide ((st = 1 ∨ st = 2) ∧ (0 : Int) ≤ 0 ∧ (0 : Int) ≤ 3) = decide (st = 1 ∨ st = 2) := by simp
  rw [this]
  cases okM l <;> cases decide (st = 1 ∨ st = 2) <;> cases numB pg 4095 <;> cases numB fr 4095 <;> rfl
set_option maxRecDepth 100000 in
set_option maxHeartbeats 3200000 in
theorem walkC : WalkC := by
  intro f l c X st fr pg w hl hlc hX
  have HM := Lib.hid (fun tb W hT => mayBegin_any f l c st 0 pg fr (.slice none 0 0) tb W hT)
  rw [walkMay_eq] at HM
  have HX := Lib.hid hX
  have H0 := Lib.hid ((BoxAt.newAt (w.alloc (.cells #[.slice f l c] 24)) z9 40 (w.heap.size + 1) (by simp)).alloc (.cells z5 42))
  have F0 := Lib.hid (BoxAt.newAt ((w.alloc (.cells #[.slice f l c] 24)).alloc (.cells z9 40)) z5 42 (w.heap.size + 1 + 1) (by simp))
  have M0 := Lib.hid (((BoxAt.new w #[.slice f l c] 24).alloc (.cells z9 40)).alloc (.cells z5 42))
  have B0 := Lib.hid (bel_alloc (bel_alloc (bel_alloc (Below.refl w.heap.size w) (.cells #[.slice f l c] 24)) (.cells z9 40)) (.cells z5 42))
  unfold walkA
  cases hm : walkMay l st fr pg
  · rw [hm] at HM
    clear hm hX
    go_enter Tryz.func64, Tryz.ntmps64
    go_upto_region 1 with fail
    obtain ⟨W0, hW0⟩ : ∃ W0, W0 = ((w.alloc (.cells #[.slice f l c] 24)).alloc (.cells z9 40)).alloc (.cells z5 42) := ⟨_, rfl⟩
    rw [← hW0] at M0 H0 F0 B0 ⊢
    clear hW0
    have Mc0 := M0.out.get 0 (.slice f l c) rfl
    go_wp2_with fail
    refine (tableOf_any _ _ _ _ _ _ _ _).mono ?_
    rintro e w1 ⟨rfl, hb1⟩
    have M2 := Lib.hid (M0.out.below hb1)
    have H2 := Lib.hid (H0.out.below hb1)
    have F2 := Lib.hid (F0.out.below hb1)
    have B2 := Lib.hid (bel_trans B0.out hb1)
    clear Mc0
    clear M0 H0 F0 B0 hb1
    have hlF := F2.out.lt
    go_upto_region 2 with fail
    have M3 := Lib.hid ((M2.out.alloc (.cells #[.slice f l c, .int .i64 st, .int .i64 0, .int .i64 pg, .int .i64 fr, .slice none 0 0] 132)))
    have H3 := Lib.hid ((H2.out.alloc (.cells #[.slice f l c, .int .i64 st, .int .i64 0, .int .i64 pg, .int .i64 fr, .slice none 0 0] 132)))
    have F3 := Lib.hid ((F2.out.alloc (.cells #[.slice f l c, .int .i64 st, .int .i64 0, .int .i64 pg, .int .i64 fr, .slice none 0 0] 132)))
    have T3 := Lib.hid ((BoxAt.newAt _ #[.slice f l c, .int .i64 st, .int .i64 0, .int .i64 pg, .int .i64 fr, .slice none 0 0] 132 (w1.heap.size) (by first | rfl | (simp; done) | (simp; omega))))
    have B3 := Lib.hid ((bel_alloc B2.out (.cells #[.slice f l c, .int .i64 st, .int .i64 0, .int .i64 pg, .int .i64 fr, .slice none 0 0] 132)))
    clear M2 H2 F2 B2
    obtain ⟨W8, hW8⟩ : ∃ W8, W8 = w1.alloc (.cells #[.slice f l c, .int .i64 st, .int .i64 0, .int .i64 pg, .int .i64 fr, .slice none 0 0] 132) := ⟨_, rfl⟩
    have hlt := F3.out.lt
    obtain ⟨tb, htb⟩ : ∃ tb, tb = w1.heap.size := ⟨_, rfl⟩
    have hs8 : W8.heap.size = tb + 1 := by rw [hW8, htb]; simp
    rw [← hW8] at M3 H3 F3 T3 B3 hlt ⊢
    rw [← htb] at T3 hlF ⊢
    clear htb hW8
    go_wp2_with fail
    refine (HM.out tb _ T3.out).mono ?_
    rintro e w4 ⟨rfl, hb4⟩
    have M5 := Lib.hid (M3.out.below hb4)
    have H5 := Lib.hid (H3.out.below hb4)
    have F5 := Lib.hid (F3.out.below hb4)
    have T5 := Lib.hid (T3.out.below hb4)
    have B5 := Lib.hid (bel_trans B3.out hb4)
    clear M3 H3 F3 T3 B3 hb4
    have Hc0 := H5.out.get 0 (.int .i64 0) rfl
    have Hc1 := H5.out.get 1 (.int .i64 0) rfl
    have Hc2 := H5.out.get 2 (.bool false) rfl
    have Hc3 := H5.out.get 3 (.bool false) rfl
    have Hc4 := H5.out.get 4 (.bool false) rfl
    have Hc5 := H5.out.get 5 (.bool false) rfl
    have Hc6 := H5.out.get 6 (.bool false) rfl
    have Hc7 := H5.out.get 7 (.int .i64 0) rfl
    have Hc8 := H5.out.get 8 (.int .i64 0) rfl
    have Hz0 := H5.out.free 0
    have Hz1 := H5.out.free 1
    have Hz2 := H5.out.free 2
    have Hz3 := H5.out.free 3
    have Hz4 := H5.out.free 4
    have Hz5 := H5.out.free 5
    have Hz6 := H5.out.free 6
    have Hz7 := H5.out.free 7
    have Hz8 := H5.out.free 8
    have Fc0 := F5.out.get 0 (.int .i64 0) rfl
    have Fc1 := F5.out.get 1 (.int .i64 0) rfl
    have Fc2 := F5.out.get 2 (.int .i64 0) rfl
    have Fc3 := F5.out.get 3 (.bool false) rfl
    have Fc4 := F5.out.get 4 (.int .i64 0) rfl
    have Fz0 := F5.out.free 0
    have Fz1 := F5.out.free 1
    have Fz2 := F5.out.free 2
    have Fz3 := F5.out.free 3
    have Fz4 := F5.out.free 4
    go_wp2
    refine bodyPost_ret (v := .tuple #[.agg #[.int .i64 0, .int .i64 0, .bool false, .bool false, .bool false, .bool false, .bool false, .int .i64 0, .int .i64 0], .agg #[.int .i64 0, .int .i64 0, .int .i64 0, .bool false, .int .i64 0], .slice none 0 0, .int .i64 1]) (by simp [results, Tryz.results64, go_sem, Hc0, Hc1, Hc2, Hc3, Hc4, Hc5, Hc6, Hc7, Hc8, Fc0, Fc1, Fc2, Fc3, Fc4]) rfl ?_
    refine ⟨none, 0, rfl, OwnI.nil _ _, ?_⟩
    repeat' (first | with_reducible exact B5.out | with_reducible refine Below.setCell ?_ (by first | (simp; done) | (simp; omega)) _ | with_reducible refine Below.drew ?_)
  · have hm' := hm
    unfold walkMay at hm'
    simp only [Bool.and_eq_true, decide_eq_true_eq] at hm'
    obtain ⟨hM, hst, hfr, hpg⟩ := hm'
    have hfr := numB_iff.1 hfr
    have hpg := numB_iff.1 hpg
    have HEN := Lib.hid (fun tb W hB h0 hT => end_any f l c X st pg fr tb w W hX hM hst hpg.1 hpg.2 hfr.1 hfr.2 hB h0 hT)
    clear hst hfr hpg
    rw [hm] at HM
    clear hm hX
    go_enter Tryz.func64, Tryz.ntmps64
    go_upto_region 1 with fail
    obtain ⟨W0, hW0⟩ : ∃ W0, W0 = ((w.alloc (.cells #[.slice f l c] 24)).alloc (.cells z9 40)).alloc (.cells z5 42) := ⟨_, rfl⟩
    rw [← hW0] at M0 H0 F0 B0 ⊢
    clear hW0
    have Mc0 := M0.out.get 0 (.slice f l c) rfl
    go_wp2_with fail
    refine (tableOf_any _ _ _ _ _ _ _ _).mono ?_
    rintro e w1 ⟨rfl, hb1⟩
    have M2 := Lib.hid (M0.out.below hb1)
    have H2 := Lib.hid (H0.out.below hb1)
    have F2 := Lib.hid (F0.out.below hb1)
    have B2 := Lib.hid (bel_trans B0.out hb1)
    clear Mc0
    clear M0 H0 F0 B0 hb1
    have hlF := F2.out.lt
    go_upto_region 2 with fail
    have M3 := Lib.hid ((M2.out.alloc (.cells #[.slice f l c, .int .i64 st, .int .i64 0, .int .i64 pg, .int .i64 fr, .slice none 0 0] 132)))
    have H3 := Lib.hid ((H2.out.alloc (.cells #[.slice f l c, .int .i64 st, .int .i64 0, .int .i64 pg, .int .i64 fr, .slice none 0 0] 132)))
    have F3 := Lib.hid ((F2.out.alloc (.cells #[.slice f l c, .int .i64 st, .int .i64 0, .int .i64 pg, .int .i64 fr, .slice none 0 0] 132)))
    have T3 := Lib.hid ((BoxAt.newAt _ #[.slice f l c, .int .i64 st, .int .i64 0, .int .i64 pg, .int .i64 fr, .slice none 0 0] 132 (w1.heap.size) (by first | rfl | (simp; done) | (simp; omega))))
    have B3 := Lib.hid ((bel_alloc B2.out (.cells #[.slice f l c, .int .i64 st, .int .i64 0, .int .i64 pg, .int .i64 fr, .slice none 0 0] 132)))
    clear M2 H2 F2 B2
    obtain ⟨W8, hW8⟩ : ∃ W8, W8 = w1.alloc (.cells #[.slice f l c, .int .i64 st, .int .i64 0, .int .i64 pg, .int .i64 fr, .slice none 0 0] 132) := ⟨_, rfl⟩
    have hlt := F3.out.lt
    obtain ⟨tb, htb⟩ : ∃ tb, tb = w1.heap.size := ⟨_, rfl⟩
    have hs8 : W8.heap.size = tb + 1 := by rw [hW8, htb]; simp
    rw [← hW8] at M3 H3 F3 T3 B3 hlt ⊢
    rw [← htb] at T3 hlF ⊢
    clear htb hW8
    go_wp2_with fail
    refine (HM.out tb _ T3.out).mono ?_
    rintro e w4 ⟨rfl, hb4⟩
    have M5 := Lib.hid (M3.out.below hb4)
    have H5 := Lib.hid (H3.out.below hb4)
    have F5 := Lib.hid (F3.out.below hb4)
    have T5 := Lib.hid (T3.out.below hb4)
    have B5 := Lib.hid (bel_trans B3.out hb4)
    clear M3 H3 F3 T3 B3 hb4
    go_wp2_with fail
    refine (HEN.out tb _ B5.out (by omega) T5.out).mono ?_
    rintro e w9 ⟨f9, c9, u0, u1, u2, u3, u4, rfl, hT9, hO9, hK9⟩
    have hsz := T5.out.lt
    generalize walkD l X st fr pg = q at *
    obtain ⟨hq, fq, R⟩ := q
    simp only at hT9 hO9
    unfold hitV fltV
    simp only
    have T9 := Lib.hid hT9
    have O9 := Lib.hid hO9
    have H9 := Lib.hid (hK9.box H5.out (by omega) (by omega))
    have F9 := Lib.hid (hK9.box F5.out (by omega) (by omega))
    have B9 := Lib.hid (hK9.under B5.out (show w.heap.size ≤ tb by omega))
    clear hT9 hO9 hK9 T5 H5 F5 B5
    have Hc0 := H9.out.get 0 (.int .i64 0) rfl
    have Hz0 := H9.out.free 0
    have Hc1 := H9.out.get 1 (.int .i64 0) rfl
    have Hz1 := H9.out.free 1
    have Hc2 := H9.out.get 2 (.bool false) rfl
    have Hz2 := H9.out.free 2
    have Hc3 := H9.out.get 3 (.bool false) rfl
    have Hz3 := H9.out.free 3
    have Hc4 := H9.out.get 4 (.bool false) rfl
    have Hz4 := H9.out.free 4
    have Hc5 := H9.out.get 5 (.bool false) rfl
    have Hz5 := H9.out.free 5
    have Hc6 := H9.out.get 6 (.bool false) rfl
    have Hz6 := H9.out.free 6
    have Hc7 := H9.out.get 7 (.int .i64 0) rfl
    have Hz7 := H9.out.free 7
    have Hc8 := H9.out.get 8 (.int .i64 0) rfl
    have Hz8 := H9.out.free 8
    have Fc0 := F9.out.get 0 (.int .i64 0) rfl
    have Fz0 := F9.out.free 0
    have Fc1 := F9.out.get 1 (.int .i64 0) rfl
    have Fz1 := F9.out.free 1
    have Fc2 := F9.out.get 2 (.int .i64 0) rfl
    have Fz2 := F9.out.free 2
    have Fc3 := F9.out.get 3 (.bool false) rfl
    have Fz3 := F9.out.free 3
    have Fc4 := F9.out.get 4 (.int .i64 0) rfl
    have Fz4 := F9.out.free 4
    go_upto_region 5 with fail
    clear Hc0 Hz0 Hc1 Hz1 Hc2 Hz2 Hc3 Hz3 Hc4 Hz4 Hc5 Hz5 Hc6 Hz6 Hc7 Hz7 Hc8 Hz8 Fc0 Fz0 Fc1 Fz1 Fc2 Fz2 Fc3 Fz3 Fc4 Fz4
    obtain ⟨WX, hWX⟩ : ∃ WX, WX = ((((((((((((((w9).setCell ⟨w.heap.size + 1, 0, none⟩ (.int .i64 hq.f)).setCell ⟨w.heap.size + 1, 1, none⟩ (.int .i64 hq.m)).setCell ⟨w.heap.size + 1, 2, none⟩ (.bool hq.t.r)).setCell ⟨w.heap.size + 1, 3, none⟩ (.bool hq.t.w)).setCell ⟨w.heap.size + 1, 4, none⟩ (.bool hq.t.x)).setCell ⟨w.heap.size + 1, 5, none⟩ (.bool hq.t.a)).setCell ⟨w.heap.size + 1, 6, none⟩ (.bool hq.t.n)).setCell ⟨w.heap.size + 1, 7, none⟩ (.int .i64 hq.t.s)).setCell ⟨w.heap.size + 1, 8, none⟩ (.int .i64 hq.l)).setCell ⟨w.heap.size + 1 + 1, 0, none⟩ (.int .i64 fq.k)).setCell ⟨w.heap.size + 1 + 1, 1, none⟩ (.int .i64 fq.st)).setCell ⟨w.heap.size + 1 + 1, 2, none⟩ (.int .i64 fq.lv)).setCell ⟨w.heap.size + 1 + 1, 3, none⟩ (.bool fq.w)).setCell ⟨w.heap.size + 1 + 1, 4, none⟩ (.int .i64 fq.p) := ⟨_, rfl⟩
    have HX9 : BoxAt WX (w.heap.size + 1) #[.int .i64 hq.f, .int .i64 hq.m, .bool hq.t.r, .bool hq.t.w, .bool hq.t.x, .bool hq.t.a, .bool hq.t.n, .int .i64 hq.t.s, .int .i64 hq.l] 40 := by rw [hWX]; exact ((((((((((((((H9.out.set 0 (.int .i64 hq.f) #[.int .i64 hq.f, .int .i64 0, .bool false, .bool false, .bool false, .bool false, .bool false, .int .i64 0, .int .i64 0] rfl).set 1 (.int .i64 hq.m) #[.int .i64 hq.f, .int .i64 hq.m, .bool false, .bool false, .bool false, .bool false, .bool false, .int .i64 0, .int .i64 0] rfl).set 2 (.bool hq.t.r) #[.int .i64 hq.f, .int .i64 hq.m, .bool hq.t.r, .bool false, .bool false, .bool false, .bool false, .int .i64 0, .int .i64 0] rfl).set 3 (.bool hq.t.w) #[.int .i64 hq.f, .int .i64 hq.m, .bool hq.t.r, .bool hq.t.w, .bool false, .bool false, .bool false, .int .i64 0, .int .i64 0] rfl).set 4 (.bool hq.t.x) #[.int .i64 hq.f, .int .i64 hq.m, .bool hq.t.r, .bool hq.t.w, .bool hq.t.x, .bool false, .bool false, .int .i64 0, .int .i64 0] rfl).set 5 (.bool hq.t.a) #[.int .i64 hq.f, .int .i64 hq.m, .bool hq.t.r, .bool hq.t.w, .bool hq.t.x, .bool hq.t.a, .bool false, .int .i64 0, .int .i64 0] rfl).set 6 (.bool hq.t.n) #[.int .i64 hq.f, .int .i64 hq.m, .bool hq.t.r, .bool hq.t.w, .bool hq.t.x, .bool hq.t.a, .bool hq.t.n, .int .i64 0, .int .i64 0] rfl).set 7 (.int .i64 hq.t.s) #[.int .i64 hq.f, .int .i64 hq.m, .bool hq.t.r, .bool hq.t.w, .bool hq.t.x, .bool hq.t.a, .bool hq.t.n, .int .i64 hq.t.s, .int .i64 0] rfl).set 8 (.int .i64 hq.l) #[.int .i64 hq.f, .int .i64 hq.m, .bool hq.t.r, .bool hq.t.w, .bool hq.t.x, .bool hq.t.a, .bool hq.t.n, .int .i64 hq.t.s, .int .i64 hq.l] rfl).other ⟨w.heap.size + 1 + 1, 0, none⟩ (.int .i64 fq.k) (by first | (simp; done) | (simp; omega))).other ⟨w.heap.size + 1 + 1, 1, none⟩ (.int .i64 fq.st) (by first | (simp; done) | (simp; omega))).other ⟨w.heap.size + 1 + 1, 2, none⟩ (.int .i64 fq.lv) (by first | (simp; done) | (simp; omega))).other ⟨w.heap.size + 1 + 1, 3, none⟩ (.bool fq.w) (by first | (simp; done) | (simp; omega))).other ⟨w.heap.size + 1 + 1, 4, none⟩ (.int .i64 fq.p) (by first | (simp; done) | (simp; omega)))
    have FX9 : BoxAt WX (w.heap.size + 1 + 1) #[.int .i64 fq.k, .int .i64 fq.st, .int .i64 fq.lv, .bool fq.w, .int .i64 fq.p] 42 := by rw [hWX]; exact (((((((((((((((F9.out.other ⟨w.heap.size + 1, 0, none⟩ (.int .i64 hq.f) (by first | (simp; done) | (simp; omega))).other ⟨w.heap.size + 1, 1, none⟩ (.int .i64 hq.m) (by first | (simp; done) | (simp; omega))).other ⟨w.heap.size + 1, 2, none⟩ (.bool hq.t.r) (by first | (simp; done) | (simp; omega))).other ⟨w.heap.size + 1, 3, none⟩ (.bool hq.t.w) (by first | (simp; done) | (simp; omega))).other ⟨w.heap.size + 1, 4, none⟩ (.bool hq.t.x) (by first | (simp; done) | (simp; omega))).other ⟨w.heap.size + 1, 5, none⟩ (.bool hq.t.a) (by first | (simp; done) | (simp; omega))).other ⟨w.heap.size + 1, 6, none⟩ (.bool hq.t.n) (by first | (simp; done) | (simp; omega))).other ⟨w.heap.size + 1, 7, none⟩ (.int .i64 hq.t.s) (by first | (simp; done) | (simp; omega))).other ⟨w.heap.size + 1, 8, none⟩ (.int .i64 hq.l) (by first | (simp; done) | (simp; omega)))).set 0 (.int .i64 fq.k) #[.int .i64 fq.k, .int .i64 0, .int .i64 0, .bool false, .int .i64 0] rfl).set 1 (.int .i64 fq.st) #[.int .i64 fq.k, .int .i64 fq.st, .int .i64 0, .bool false, .int .i64 0] rfl).set 2 (.int .i64 fq.lv) #[.int .i64 fq.k, .int .i64 fq.st, .int .i64 fq.lv, .bool false, .int .i64 0] rfl).set 3 (.bool fq.w) #[.int .i64 fq.k, .int .i64 fq.st, .int .i64 fq.lv, .bool fq.w, .int .i64 0] rfl).set 4 (.int .i64 fq.p) #[.int .i64 fq.k, .int .i64 fq.st, .int .i64 fq.lv, .bool fq.w, .int .i64 fq.p] rfl)
    have TX9 : BoxAt WX tb #[u0, u1, u2, u3, u4, .slice f9 R.length c9] 132 := by rw [hWX]; exact ((((((((((((((T9.out.other ⟨w.heap.size + 1, 0, none⟩ (.int .i64 hq.f) (by first | (simp; done) | (simp; omega))).other ⟨w.heap.size + 1, 1, none⟩ (.int .i64 hq.m) (by first | (simp; done) | (simp; omega))).other ⟨w.heap.size + 1, 2, none⟩ (.bool hq.t.r) (by first | (simp; done) | (simp; omega))).other ⟨w.heap.size + 1, 3, none⟩ (.bool hq.t.w) (by first | (simp; done) | (simp; omega))).other ⟨w.heap.size + 1, 4, none⟩ (.bool hq.t.x) (by first | (simp; done) | (simp; omega))).other ⟨w.heap.size + 1, 5, none⟩ (.bool hq.t.a) (by first | (simp; done) | (simp; omega))).other ⟨w.heap.size + 1, 6, none⟩ (.bool hq.t.n) (by first | (simp; done) | (simp; omega))).other ⟨w.heap.size + 1, 7, none⟩ (.int .i64 hq.t.s) (by first | (simp; done) | (simp; omega))).other ⟨w.heap.size + 1, 8, none⟩ (.int .i64 hq.l) (by first | (simp; done) | (simp; omega))).other ⟨w.heap.size + 1 + 1, 0, none⟩ (.int .i64 fq.k) (by first | (simp; done) | (simp; omega))).other ⟨w.heap.size + 1 + 1, 1, none⟩ (.int .i64 fq.st) (by first | (simp; done) | (simp; omega))).other ⟨w.heap.size + 1 + 1, 2, none⟩ (.int .i64 fq.lv) (by first | (simp; done) | (simp; omega))).other ⟨w.heap.size + 1 + 1, 3, none⟩ (.bool fq.w) (by first | (simp; done) | (simp; omega))).other ⟨w.heap.size + 1 + 1, 4, none⟩ (.int .i64 fq.p) (by first | (simp; done) | (simp; omega)))
    have OX9 : OwnI WX w4.heap.size (.slice f9 R.length c9) R := by rw [hWX]; exact ((((((((((((((O9.out.other ⟨w.heap.size + 1, 0, none⟩ (.int .i64 hq.f) (by first | (simp; done) | (simp; omega))).other ⟨w.heap.size + 1, 1, none⟩ (.int .i64 hq.m) (by first | (simp; done) | (simp; omega))).other ⟨w.heap.size + 1, 2, none⟩ (.bool hq.t.r) (by first | (simp; done) | (simp; omega))).other ⟨w.heap.size + 1, 3, none⟩ (.bool hq.t.w) (by first | (simp; done) | (simp; omega))).other ⟨w.heap.size + 1, 4, none⟩ (.bool hq.t.x) (by first | (simp; done) | (simp; omega))).other ⟨w.heap.size + 1, 5, none⟩ (.bool hq.t.a) (by first | (simp; done) | (simp; omega))).other ⟨w.heap.size + 1, 6, none⟩ (.bool hq.t.n) (by first | (simp; done) | (simp; omega))).other ⟨w.heap.size + 1, 7, none⟩ (.int .i64 hq.t.s) (by first | (simp; done) | (simp; omega))).other ⟨w.heap.size + 1, 8, none⟩ (.int .i64 hq.l) (by first | (simp; done) | (simp; omega))).other ⟨w.heap.size + 1 + 1, 0, none⟩ (.int .i64 fq.k) (by first | (simp; done) | (simp; omega))).other ⟨w.heap.size + 1 + 1, 1, none⟩ (.int .i64 fq.st) (by first | (simp; done) | (simp; omega))).other ⟨w.heap.size + 1 + 1, 2, none⟩ (.int .i64 fq.lv) (by first | (simp; done) | (simp; omega))).other ⟨w.heap.size + 1 + 1, 3, none⟩ (.bool fq.w) (by first | (simp; done) | (simp; omega))).other ⟨w.heap.size + 1 + 1, 4, none⟩ (.int .i64 fq.p) (by first | (simp; done) | (simp; omega)))
    have BX9 : Below w.heap.size w WX := by
      rw [hWX]
      repeat' (first | with_reducible exact B9.out | with_reducible refine Below.setCell ?_ (by first | (simp; done) | (simp; omega)) _)
    rw [← hWX]
    clear hWX H9 F9 T9 O9 B9
    refine wp_region_held_drew (S := (fun w' => BoxAt w' (w.heap.size + 1) #[.int .i64 hq.f, .int .i64 hq.m, .bool hq.t.r, .bool hq.t.w, .bool hq.t.x, .bool hq.t.a, .bool hq.t.n, .int .i64 hq.t.s, .int .i64 hq.l] 40 ∧ BoxAt w' (w.heap.size + 1 + 1) #[.int .i64 fq.k, .int .i64 fq.st, .int .i64 fq.lv, .bool fq.w, .int .i64 fq.p] 42 ∧ BoxAt w' tb #[u0, u1, u2, u3, u4, .slice f9 R.length c9] 132)) (by kernel_rfl) ⟨HX9.drew, FX9.drew, TX9.drew⟩ (fun hS => ?_)
    have OY := OX9.drew
    have BY := Below.drew BX9
    clear HX9 FX9 TX9 OX9 BX9
    refine tkR 0 27 rfl hS (fun w' hSw => by obtain ⟨hS1, hS2, hS3⟩ := hSw; have hc0 := hS1.get 0 (.int .i64 hq.f) rfl; have hc1 := hS1.get 1 (.int .i64 hq.m) rfl; have hc2 := hS1.get 2 (.bool hq.t.r) rfl; have hc3 := hS1.get 3 (.bool hq.t.w) rfl; have hc4 := hS1.get 4 (.bool hq.t.x) rfl; have hc5 := hS1.get 5 (.bool hq.t.a) rfl; have hc6 := hS1.get 6 (.bool hq.t.n) rfl; have hc7 := hS1.get 7 (.int .i64 hq.t.s) rfl; have hc8 := hS1.get 8 (.int .i64 hq.l) rfl; have fc0 := hS2.get 0 (.int .i64 fq.k) rfl; have fc1 := hS2.get 1 (.int .i64 fq.st) rfl; have fc2 := hS2.get 2 (.int .i64 fq.lv) rfl; have fc3 := hS2.get 3 (.bool fq.w) rfl; have fc4 := hS2.get 4 (.int .i64 fq.p) rfl; have rc := hS3.get 5 (.slice f9 R.length c9) rfl; clear hS1 hS2 hS3; go_simp; try with_reducible rfl) ?_
    simp only [pA, pB, pC]
    refine tkR 1 28 rfl hS (fun w' hSw => by obtain ⟨hS1, hS2, hS3⟩ := hSw; have hc0 := hS1.get 0 (.int .i64 hq.f) rfl; have hc1 := hS1.get 1 (.int .i64 hq.m) rfl; have hc2 := hS1.get 2 (.bool hq.t.r) rfl; have hc3 := hS1.get 3 (.bool hq.t.w) rfl; have hc4 := hS1.get 4 (.bool hq.t.x) rfl; have hc5 := hS1.get 5 (.bool hq.t.a) rfl; have hc6 := hS1.get 6 (.bool hq.t.n) rfl; have hc7 := hS1.get 7 (.int .i64 hq.t.s) rfl; have hc8 := hS1.get 8 (.int .i64 hq.l) rfl; have fc0 := hS2.get 0 (.int .i64 fq.k) rfl; have fc1 := hS2.get 1 (.int .i64 fq.st) rfl; have fc2 := hS2.get 2 (.int .i64 fq.lv) rfl; have fc3 := hS2.get 3 (.bool fq.w) rfl; have fc4 := hS2.get 4 (.int .i64 fq.p) rfl; have rc := hS3.get 5 (.slice f9 R.length c9) rfl; clear hS1 hS2 hS3; go_simp; try with_reducible rfl) ?_
    simp only [pA, pB, pC]
    refine tkR 2 29 rfl hS (fun w' hSw => by obtain ⟨hS1, hS2, hS3⟩ := hSw; have hc0 := hS1.get 0 (.int .i64 hq.f) rfl; have hc1 := hS1.get 1 (.int .i64 hq.m) rfl; have hc2 := hS1.get 2 (.bool hq.t.r) rfl; have hc3 := hS1.get 3 (.bool hq.t.w) rfl; have hc4 := hS1.get 4 (.bool hq.t.x) rfl; have hc5 := hS1.get 5 (.bool hq.t.a) rfl; have hc6 := hS1.get 6 (.bool hq.t.n) rfl; have hc7 := hS1.get 7 (.int .i64 hq.t.s) rfl; have hc8 := hS1.get 8 (.int .i64 hq.l) rfl; have fc0 := hS2.get 0 (.int .i64 fq.k) rfl; have fc1 := hS2.get 1 (.int .i64 fq.st) rfl; have fc2 := hS2.get 2 (.int .i64 fq.lv) rfl; have fc3 := hS2.get 3 (.bool fq.w) rfl; have fc4 := hS2.get 4 (.int .i64 fq.p) rfl; have rc := hS3.get 5 (.slice f9 R.length c9) rfl; clear hS1 hS2 hS3; go_simp; try with_reducible rfl) ?_
    simp only [pA, pB, pC]
    refine tkR 3 30 rfl hS (fun w' hSw => by obtain ⟨hS1, hS2, hS3⟩ := hSw; have hc0 := hS1.get 0 (.int .i64 hq.f) rfl; have hc1 := hS1.get 1 (.int .i64 hq.m) rfl; have hc2 := hS1.get 2 (.bool hq.t.r) rfl; have hc3 := hS1.get 3 (.bool hq.t.w) rfl; have hc4 := hS1.get 4 (.bool hq.t.x) rfl; have hc5 := hS1.get 5 (.bool hq.t.a) rfl; have hc6 := hS1.get 6 (.bool hq.t.n) rfl; have hc7 := hS1.get 7 (.int .i64 hq.t.s) rfl; have hc8 := hS1.get 8 (.int .i64 hq.l) rfl; have fc0 := hS2.get 0 (.int .i64 fq.k) rfl; have fc1 := hS2.get 1 (.int .i64 fq.st) rfl; have fc2 := hS2.get 2 (.int .i64 fq.lv) rfl; have fc3 := hS2.get 3 (.bool fq.w) rfl; have fc4 := hS2.get 4 (.int .i64 fq.p) rfl; have rc := hS3.get 5 (.slice f9 R.length c9) rfl; clear hS1 hS2 hS3; go_simp; try with_reducible rfl) ?_
    simp only [pA, pB, pC]
    refine wpAnyH_ready (rs := [4]) (by kernel_rfl) (by simp) ?_
    refine AllReadyH.cons (o := ⟨none, _, _, _, _, _⟩) rfl (fun K hK => ?_) AllReadyH.nil
    refine step_storeB rfl 40 _ _ rfl _ _ #[.int .i64 hq.f, .int .i64 hq.m, .bool hq.t.r, .bool hq.t.w, .bool hq.t.x, .bool hq.t.a, .bool hq.t.n, .int .i64 hq.t.s, .int .i64 hq.l] 40 rfl rfl (by kernel_rfl) rfl (by simp [Value.oneCell']) hS.1 ?_
    refine hK.out _ _ ?_ (fun hS' => ?_)
    · exact ⟨hS.1.put, hS.2.1.row (by omega), hS.2.2.row (by omega)⟩
    have OY1 := OY.row (cs := #[.int .i64 hq.f, .int .i64 hq.m, .bool hq.t.r, .bool hq.t.w, .bool hq.t.x, .bool hq.t.a, .bool hq.t.n, .int .i64 hq.t.s, .int .i64 hq.l]) (show w.heap.size + 1 < _ by omega)
    have BY1 := Below.rowB BY (cs := #[.int .i64 hq.f, .int .i64 hq.m, .bool hq.t.r, .bool hq.t.w, .bool hq.t.x, .bool hq.t.a, .bool hq.t.n, .int .i64 hq.t.s, .int .i64 hq.l]) (show w.heap.size ≤ w.heap.size + 1 by omega)
    clear OY BY
    clear hK K hS
    have hS := hS'
    clear hS'
    try simp only [Act.put]
    refine wpAnyH_ready (rs := [5]) (by kernel_rfl) (by simp) ?_
    refine AllReadyH.cons (o := ⟨none, _, _, _, _, _⟩) rfl (fun K hK => ?_) AllReadyH.nil
    refine step_storeB rfl 42 _ _ rfl _ _ #[.int .i64 fq.k, .int .i64 fq.st, .int .i64 fq.lv, .bool fq.w, .int .i64 fq.p] 42 rfl rfl (by kernel_rfl) rfl (by simp [Value.oneCell']) hS.2.1 ?_
    refine hK.out _ _ ?_ (fun hS' => ?_)
    · exact ⟨hS.1.row (by omega), hS.2.1.put, hS.2.2.row (by omega)⟩
    have OY2 := OY1.row (cs := #[.int .i64 fq.k, .int .i64 fq.st, .int .i64 fq.lv, .bool fq.w, .int .i64 fq.p]) (show w.heap.size + 1 + 1 < _ by omega)
    have BY2 := Below.rowB BY1 (cs := #[.int .i64 fq.k, .int .i64 fq.st, .int .i64 fq.lv, .bool fq.w, .int .i64 fq.p]) (show w.heap.size ≤ w.heap.size + 1 + 1 by omega)
    clear OY1 BY1
    clear hK K hS
    have hS := hS'
    clear hS'
    try simp only [Act.put]
    refine tkR 6 10 rfl hS (fun w' hSw => by obtain ⟨hS1, hS2, hS3⟩ := hSw; have hc0 := hS1.get 0 (.int .i64 hq.f) rfl; have hc1 := hS1.get 1 (.int .i64 hq.m) rfl; have hc2 := hS1.get 2 (.bool hq.t.r) rfl; have hc3 := hS1.get 3 (.bool hq.t.w) rfl; have hc4 := hS1.get 4 (.bool hq.t.x) rfl; have hc5 := hS1.get 5 (.bool hq.t.a) rfl; have hc6 := hS1.get 6 (.bool hq.t.n) rfl; have hc7 := hS1.get 7 (.int .i64 hq.t.s) rfl; have hc8 := hS1.get 8 (.int .i64 hq.l) rfl; have fc0 := hS2.get 0 (.int .i64 fq.k) rfl; have fc1 := hS2.get 1 (.int .i64 fq.st) rfl; have fc2 := hS2.get 2 (.int .i64 fq.lv) rfl; have fc3 := hS2.get 3 (.bool fq.w) rfl; have fc4 := hS2.get 4 (.int .i64 fq.p) rfl; have rc := hS3.get 5 (.slice f9 R.length c9) rfl; clear hS1 hS2 hS3; go_simp; try with_reducible rfl) ?_
    simp only [pA, pB, pC]
    refine tkR 7 11 rfl hS (fun w' hSw => by obtain ⟨hS1, hS2, hS3⟩ := hSw; have hc0 := hS1.get 0 (.int .i64 hq.f) rfl; have hc1 := hS1.get 1 (.int .i64 hq.m) rfl; have hc2 := hS1.get 2 (.bool hq.t.r) rfl; have hc3 := hS1.get 3 (.bool hq.t.w) rfl; have hc4 := hS1.get 4 (.bool hq.t.x) rfl; have hc5 := hS1.get 5 (.bool hq.t.a) rfl; have hc6 := hS1.get 6 (.bool hq.t.n) rfl; have hc7 := hS1.get 7 (.int .i64 hq.t.s) rfl; have hc8 := hS1.get 8 (.int .i64 hq.l) rfl; have fc0 := hS2.get 0 (.int .i64 fq.k) rfl; have fc1 := hS2.get 1 (.int .i64 fq.st) rfl; have fc2 := hS2.get 2 (.int .i64 fq.lv) rfl; have fc3 := hS2.get 3 (.bool fq.w) rfl; have fc4 := hS2.get 4 (.int .i64 fq.p) rfl; have rc := hS3.get 5 (.slice f9 R.length c9) rfl; clear hS1 hS2 hS3; go_simp; try with_reducible rfl) ?_
    simp only [pA, pB, pC]
    refine wpAnyH_done (by kernel_rfl) ?_ _
    try simp only [Act.put, List.setIfInBounds_toArray, List.set_cons_zero, List.set_cons_succ]
    have kc0 := hS.1.get 0 (.int .i64 hq.f) rfl
    have kc1 := hS.1.get 1 (.int .i64 hq.m) rfl
    have kc2 := hS.1.get 2 (.bool hq.t.r) rfl
    have kc3 := hS.1.get 3 (.bool hq.t.w) rfl
    have kc4 := hS.1.get 4 (.bool hq.t.x) rfl
    have kc5 := hS.1.get 5 (.bool hq.t.a) rfl
    have kc6 := hS.1.get 6 (.bool hq.t.n) rfl
    have kc7 := hS.1.get 7 (.int .i64 hq.t.s) rfl
    have kc8 := hS.1.get 8 (.int .i64 hq.l) rfl
    have lc0 := hS.2.1.get 0 (.int .i64 fq.k) rfl
    have lc1 := hS.2.1.get 1 (.int .i64 fq.st) rfl
    have lc2 := hS.2.1.get 2 (.int .i64 fq.lv) rfl
    have lc3 := hS.2.1.get 3 (.bool fq.w) rfl
    have lc4 := hS.2.1.get 4 (.int .i64 fq.p) rfl
    clear hS
    go_wp2
    refine bodyPost_ret (v := .tuple #[.agg #[.int .i64 hq.f, .int .i64 hq.m, .bool hq.t.r, .bool hq.t.w, .bool hq.t.x, .bool hq.t.a, .bool hq.t.n, .int .i64 hq.t.s, .int .i64 hq.l], .agg #[.int .i64 fq.k, .int .i64 fq.st, .int .i64 fq.lv, .bool fq.w, .int .i64 fq.p], .slice f9 R.length c9, .int .i64 0]) (by simp [results, Tryz.results64, go_sem, kc0, kc1, kc2, kc3, kc4, kc5, kc6, kc7, kc8, lc0, lc1, lc2, lc3, lc4]) rfl ?_
    refine ⟨f9, c9, rfl, OwnI.mono OY2 (by omega), BY2⟩

set_option maxRecDepth 100000 in
set_option maxHeartbeats 1600000 in
theorem tableC : TableC := by
  intro f l c X st lv fr pg w hl hlc hX
  have HM := Lib.hid (fun W => tableMay_any f l c st lv pg fr W)
  have HTH := Lib.hid (fun W => there_any f l c st lv pg fr W)
  have HX := Lib.hid hX
  have M0 := Lib.hid ((BoxAt.new w #[.slice f l c] 24).alloc (.cells z9 70))
  have R0 := Lib.hid (BoxAt.newAt (w.alloc (.cells #[.slice f l c] 24)) z9 70 (w.heap.size + 1) (by simp))
  have B0 := Lib.hid (bel_alloc (bel_alloc (Below.refl w.heap.size w) (.cells #[.slice f l c] 24)) (.cells z9 70))
  have ht : tableA l X st lv fr pg = if tblMay l st lv pg = true then (if hasB l fr = true then (tblD X st lv fr pg, 0) else (dz, 2)) else (dz, 1) := by
    unfold tableA tblMay
    by_cases hM : okM l = true
    · have hh : hasB l fr = numB fr ((l : Int) / 8 - 1) := by
        unfold hasB framesB numB
        rw [if_pos hM, ← Bool.decide_and]
        congr 1
        apply propext
        omega
      rw [hh]
    · have : okM l = false := by simpa using hM
      rw [this]
      rfl
  rw [ht]
  clear ht
  cases hm : tblMay l st lv pg
  · rw [hm] at HM
    clear hm hX
    go_enter Tryz.func51, Tryz.ntmps51
    go_upto_region 1 with fail
    obtain ⟨W0, hW0⟩ : ∃ W0, W0 = (w.alloc (.cells #[.slice f l c] 24)).alloc (.cells z9 70) := ⟨_, rfl⟩
    rw [← hW0] at M0 R0 B0 ⊢
    clear hW0
    have Mc0 := M0.out.get 0 (.slice f l c) rfl
    go_wp2_with fail
    refine (tableOf_any _ _ _ _ _ _ _ _).mono ?_
    rintro e w1 ⟨rfl, hb1⟩
    have M2 := Lib.hid (M0.out.below hb1)
    have R2 := Lib.hid (R0.out.below hb1)
    have B2 := Lib.hid (bel_trans B0.out hb1)
    clear Mc0
    clear M0 R0 B0 hb1
    go_upto_region 2 with fail
    have M3 := Lib.hid ((M2.out.alloc (.cells #[.slice f l c, .int .i64 st, .int .i64 lv, .int .i64 pg, .int .i64 fr] 119)))
    have R3 := Lib.hid ((R2.out.alloc (.cells #[.slice f l c, .int .i64 st, .int .i64 lv, .int .i64 pg, .int .i64 fr] 119)))
    have T3 := Lib.hid ((BoxAt.newAt _ #[.slice f l c, .int .i64 st, .int .i64 lv, .int .i64 pg, .int .i64 fr] 119 (w1.heap.size) (by first | rfl | (simp; done) | (simp; omega))))
    have B3 := Lib.hid ((bel_alloc B2.out (.cells #[.slice f l c, .int .i64 st, .int .i64 lv, .int .i64 pg, .int .i64 fr] 119)))
    clear M2 R2 B2
    obtain ⟨W8, hW8⟩ : ∃ W8, W8 = w1.alloc (.cells #[.slice f l c, .int .i64 st, .int .i64 lv, .int .i64 pg, .int .i64 fr] 119) := ⟨_, rfl⟩
    obtain ⟨tb, htb⟩ : ∃ tb, tb = w1.heap.size := ⟨_, rfl⟩
    rw [← hW8] at M3 R3 T3 B3 ⊢
    rw [← htb] at T3 ⊢
    clear htb hW8
    have Tc0 := T3.out.get 0 (.slice f l c) rfl
    have Tc1 := T3.out.get 1 (.int .i64 st) rfl
    have Tc2 := T3.out.get 2 (.int .i64 lv) rfl
    have Tc3 := T3.out.get 3 (.int .i64 pg) rfl
    have Tc4 := T3.out.get 4 (.int .i64 fr) rfl
    go_wp2_with fail
    refine (HM.out _).mono ?_
    rintro e w4 ⟨rfl, hb4⟩
    have M5 := Lib.hid (M3.out.below hb4)
    have R5 := Lib.hid (R3.out.below hb4)
    have T5 := Lib.hid (T3.out.below hb4)
    have B5 := Lib.hid (bel_trans B3.out hb4)
    clear Tc0 Tc1 Tc2 Tc3 Tc4
    clear M3 R3 T3 B3 hb4
    have Rc0 := R5.out.get 0 (.int .i64 0) rfl
    have Rc1 := R5.out.get 1 (.int .i64 0) rfl
    have Rc2 := R5.out.get 2 (.bool false) rfl
    have Rc3 := R5.out.get 3 (.bool false) rfl
    have Rc4 := R5.out.get 4 (.bool false) rfl
    have Rc5 := R5.out.get 5 (.bool false) rfl
    have Rc6 := R5.out.get 6 (.bool false) rfl
    have Rc7 := R5.out.get 7 (.int .i64 0) rfl
    have Rc8 := R5.out.get 8 (.int .i64 0) rfl
    have Rz0 := R5.out.free 0
    have Rz1 := R5.out.free 1
    have Rz2 := R5.out.free 2
    have Rz3 := R5.out.free 3
    have Rz4 := R5.out.free 4
    have Rz5 := R5.out.free 5
    have Rz6 := R5.out.free 6
    have Rz7 := R5.out.free 7
    have Rz8 := R5.out.free 8
    go_wp2
    refine bodyPost_ret (v := .tuple #[.agg #[.int .i64 0, .int .i64 0, .bool false, .bool false, .bool false, .bool false, .bool false, .int .i64 0, .int .i64 0], .int .i64 1]) (by simp [results, Tryz.results51, go_sem, Rc0, Rc1, Rc2, Rc3, Rc4, Rc5, Rc6, Rc7, Rc8]) rfl ⟨rfl, ?_⟩
    repeat' (first | with_reducible exact B5.out | with_reducible refine Below.setCell ?_ (by first | (simp; done) | (simp; omega)) _)
  · cases hh : hasB l fr
    · rw [hh] at HTH
      rw [hm] at HM
      clear hh hm hX
      go_enter Tryz.func51, Tryz.ntmps51
      go_upto_region 1 with fail
      obtain ⟨W0, hW0⟩ : ∃ W0, W0 = (w.alloc (.cells #[.slice f l c] 24)).alloc (.cells z9 70) := ⟨_, rfl⟩
      rw [← hW0] at M0 R0 B0 ⊢
      clear hW0
      have Mc0 := M0.out.get 0 (.slice f l c) rfl
      go_wp2_with fail
      refine (tableOf_any _ _ _ _ _ _ _ _).mono ?_
      rintro e w1 ⟨rfl, hb1⟩
      have M2 := Lib.hid (M0.out.below hb1)
      have R2 := Lib.hid (R0.out.below hb1)
      have B2 := Lib.hid (bel_trans B0.out hb1)
      clear Mc0
      clear M0 R0 B0 hb1
      go_upto_region 2 with fail
      have M3 := Lib.hid ((M2.out.alloc (.cells #[.slice f l c, .int .i64 st, .int .i64 lv, .int .i64 pg, .int .i64 fr] 119)))
      have R3 := Lib.hid ((R2.out.alloc (.cells #[.slice f l c, .int .i64 st, .int .i64 lv, .int .i64 pg, .int .i64 fr] 119)))
      have T3 := Lib.hid ((BoxAt.newAt _ #[.slice f l c, .int .i64 st, .int .i64 lv, .int .i64 pg, .int .i64 fr] 119 (w1.heap.size) (by first | rfl | (simp; done) | (simp; omega))))
      have B3 := Lib.hid ((bel_alloc B2.out (.cells #[.slice f l c, .int .i64 st, .int .i64 lv, .int .i64 pg, .int .i64 fr] 119)))
      clear M2 R2 B2
      obtain ⟨W8, hW8⟩ : ∃ W8, W8 = w1.alloc (.cells #[.slice f l c, .int .i64 st, .int .i64 lv, .int .i64 pg, .int .i64 fr] 119) := ⟨_, rfl⟩
      obtain ⟨tb, htb⟩ : ∃ tb, tb = w1.heap.size := ⟨_, rfl⟩
      rw [← hW8] at M3 R3 T3 B3 ⊢
      rw [← htb] at T3 ⊢
      clear htb hW8
      have Tc0 := T3.out.get 0 (.slice f l c) rfl
      have Tc1 := T3.out.get 1 (.int .i64 st) rfl
      have Tc2 := T3.out.get 2 (.int .i64 lv) rfl
      have Tc3 := T3.out.get 3 (.int .i64 pg) rfl
      have Tc4 := T3.out.get 4 (.int .i64 fr) rfl
      go_wp2_with fail
      refine (HM.out _).mono ?_
      rintro e w4 ⟨rfl, hb4⟩
      have M5 := Lib.hid (M3.out.below hb4)
      have R5 := Lib.hid (R3.out.below hb4)
      have T5 := Lib.hid (T3.out.below hb4)
      have B5 := Lib.hid (bel_trans B3.out hb4)
      clear Tc0 Tc1 Tc2 Tc3 Tc4
      clear M3 R3 T3 B3 hb4
      have Tc0 := T5.out.get 0 (.slice f l c) rfl
      have Tc1 := T5.out.get 1 (.int .i64 st) rfl
      have Tc2 := T5.out.get 2 (.int .i64 lv) rfl
      have Tc3 := T5.out.get 3 (.int .i64 pg) rfl
      have Tc4 := T5.out.get 4 (.int .i64 fr) rfl
      go_wp2_with fail
      refine (HTH.out _).mono ?_
      rintro e w6 ⟨rfl, hb6⟩
      have M7 := Lib.hid (M5.out.below hb6)
      have R7 := Lib.hid (R5.out.below hb6)
      have T7 := Lib.hid (T5.out.below hb6)
      have B7 := Lib.hid (bel_trans B5.out hb6)
      clear Tc0 Tc1 Tc2 Tc3 Tc4
      clear M5 R5 T5 B5 hb6
      have Rc0 := R7.out.get 0 (.int .i64 0) rfl
      have Rc1 := R7.out.get 1 (.int .i64 0) rfl
      have Rc2 := R7.out.get 2 (.bool false) rfl
      have Rc3 := R7.out.get 3 (.bool false) rfl
      have Rc4 := R7.out.get 4 (.bool false) rfl
      have Rc5 := R7.out.get 5 (.bool false) rfl
      have Rc6 := R7.out.get 6 (.bool false) rfl
      have Rc7 := R7.out.get 7 (.int .i64 0) rfl
      have Rc8 := R7.out.get 8 (.int .i64 0) rfl
      have Rz0 := R7.out.free 0
      have Rz1 := R7.out.free 1
      have Rz2 := R7.out.free 2
      have Rz3 := R7.out.free 3
      have Rz4 := R7.out.free 4
      have Rz5 := R7.out.free 5
      have Rz6 := R7.out.free 6
      have Rz7 := R7.out.free 7
      have Rz8 := R7.out.free 8
      go_wp2
      refine bodyPost_ret (v := .tuple #[.agg #[.int .i64 0, .int .i64 0, .bool false, .bool false, .bool false, .bool false, .bool false, .int .i64 0, .int .i64 0], .int .i64 2]) (by simp [results, Tryz.results51, go_sem, Rc0, Rc1, Rc2, Rc3, Rc4, Rc5, Rc6, Rc7, Rc8]) rfl ⟨rfl, ?_⟩
      repeat' (first | with_reducible exact B7.out | with_reducible refine Below.setCell ?_ (by first | (simp; done) | (simp; omega)) _)
    · have hm' := hm
      unfold tblMay at hm'
      simp only [Bool.and_eq_true] at hm'
      obtain ⟨hM, hst, hpg⟩ := hm'
      have hpg := numB_iff.1 hpg
      have hf : 0 ≤ fr ∧ fr < (l : Int) / 8 := by
        unfold hasB framesB at hh
        rw [if_pos hM] at hh
        simpa using hh
      have HD := Lib.hid (fun W hW => desc_table f l c X st lv pg fr W hW hM hst hpg.1 hpg.2 hf.1 hf.2)
      clear hM hst hpg hf
      generalize tblD X st lv fr pg = d at *
      rw [hh] at HTH
      rw [hm] at HM
      clear hh hm hX
      go_enter Tryz.func51, Tryz.ntmps51
      go_upto_region 1 with fail
      obtain ⟨W0, hW0⟩ : ∃ W0, W0 = (w.alloc (.cells #[.slice f l c] 24)).alloc (.cells z9 70) := ⟨_, rfl⟩
      rw [← hW0] at M0 R0 B0 ⊢
      clear hW0
      have Mc0 := M0.out.get 0 (.slice f l c) rfl
      go_wp2_with fail
      refine (tableOf_any _ _ _ _ _ _ _ _).mono ?_
      rintro e w1 ⟨rfl, hb1⟩
      have M2 := Lib.hid (M0.out.below hb1)
      have R2 := Lib.hid (R0.out.below hb1)
      have B2 := Lib.hid (bel_trans B0.out hb1)
      clear Mc0
      clear M0 R0 B0 hb1
      go_upto_region 2 with fail
      have M3 := Lib.hid ((M2.out.alloc (.cells #[.slice f l c, .int .i64 st, .int .i64 lv, .int .i64 pg, .int .i64 fr] 119)))
      have R3 := Lib.hid ((R2.out.alloc (.cells #[.slice f l c, .int .i64 st, .int .i64 lv, .int .i64 pg, .int .i64 fr] 119)))
      have T3 := Lib.hid ((BoxAt.newAt _ #[.slice f l c, .int .i64 st, .int .i64 lv, .int .i64 pg, .int .i64 fr] 119 (w1.heap.size) (by first | rfl | (simp; done) | (simp; omega))))
      have B3 := Lib.hid ((bel_alloc B2.out (.cells #[.slice f l c, .int .i64 st, .int .i64 lv, .int .i64 pg, .int .i64 fr] 119)))
      clear M2 R2 B2
      obtain ⟨W8, hW8⟩ : ∃ W8, W8 = w1.alloc (.cells #[.slice f l c, .int .i64 st, .int .i64 lv, .int .i64 pg, .int .i64 fr] 119) := ⟨_, rfl⟩
      obtain ⟨tb, htb⟩ : ∃ tb, tb = w1.heap.size := ⟨_, rfl⟩
      rw [← hW8] at M3 R3 T3 B3 ⊢
      rw [← htb] at T3 ⊢
      clear htb hW8
      have Tc0 := T3.out.get 0 (.slice f l c) rfl
      have Tc1 := T3.out.get 1 (.int .i64 st) rfl
      have Tc2 := T3.out.get 2 (.int .i64 lv) rfl
      have Tc3 := T3.out.get 3 (.int .i64 pg) rfl
      have Tc4 := T3.out.get 4 (.int .i64 fr) rfl
      go_wp2_with fail
      refine (HM.out _).mono ?_
      rintro e w4 ⟨rfl, hb4⟩
      have M5 := Lib.hid (M3.out.below hb4)
      have R5 := Lib.hid (R3.out.below hb4)
      have T5 := Lib.hid (T3.out.below hb4)
      have B5 := Lib.hid (bel_trans B3.out hb4)
      clear Tc0 Tc1 Tc2 Tc3 Tc4
      clear M3 R3 T3 B3 hb4
      have Tc0 := T5.out.get 0 (.slice f l c) rfl
      have Tc1 := T5.out.get 1 (.int .i64 st) rfl
      have Tc2 := T5.out.get 2 (.int .i64 lv) rfl
      have Tc3 := T5.out.get 3 (.int .i64 pg) rfl
      have Tc4 := T5.out.get 4 (.int .i64 fr) rfl
      go_wp2_with fail
      refine (HTH.out _).mono ?_
      rintro e w6 ⟨rfl, hb6⟩
      have M7 := Lib.hid (M5.out.below hb6)
      have R7 := Lib.hid (R5.out.below hb6)
      have T7 := Lib.hid (T5.out.below hb6)
      have B7 := Lib.hid (bel_trans B5.out hb6)
      clear Tc0 Tc1 Tc2 Tc3 Tc4
      clear M5 R5 T5 B5 hb6
      have Tc0 := T7.out.get 0 (.slice f l c) rfl
      have Tc1 := T7.out.get 1 (.int .i64 st) rfl
      have Tc2 := T7.out.get 2 (.int .i64 lv) rfl
      have Tc3 := T7.out.get 3 (.int .i64 pg) rfl
      have Tc4 := T7.out.get 4 (.int .i64 fr) rfl
      have HW := HX.out.below B7.out
      go_wp2_with fail
      refine (HD.out _ HW).mono ?_
      rintro e w8 ⟨rfl, hb8⟩
      clear HW
      have M9 := Lib.hid (M7.out.below hb8)
      have R9 := Lib.hid (R7.out.below hb8)
      have T9 := Lib.hid (T7.out.below hb8)
      have B9 := Lib.hid (bel_trans B7.out hb8)
      clear Tc0 Tc1 Tc2 Tc3 Tc4
      clear M7 R7 T7 B7 hb8
      unfold dscV
      have Rc0 := R9.out.get 0 (.int .i64 0) rfl
      have Rc1 := R9.out.get 1 (.int .i64 0) rfl
      have Rc2 := R9.out.get 2 (.bool false) rfl
      have Rc3 := R9.out.get 3 (.bool false) rfl
      have Rc4 := R9.out.get 4 (.bool false) rfl
      have Rc5 := R9.out.get 5 (.bool false) rfl
      have Rc6 := R9.out.get 6 (.bool false) rfl
      have Rc7 := R9.out.get 7 (.int .i64 0) rfl
      have Rc8 := R9.out.get 8 (.int .i64 0) rfl
      have Rz0 := R9.out.free 0
      have Rz1 := R9.out.free 1
      have Rz2 := R9.out.free 2
      have Rz3 := R9.out.free 3
      have Rz4 := R9.out.free 4
      have Rz5 := R9.out.free 5
      have Rz6 := R9.out.free 6
      have Rz7 := R9.out.free 7
      have Rz8 := R9.out.free 8
      go_wp2
      refine bodyPost_ret (v := .tuple #[.agg #[.int .i64 d.k, .int .i64 d.f, .bool d.r, .bool d.w, .bool d.x, .bool d.a, .bool d.n, .int .i64 d.s, .int .i64 d.o], .int .i64 0]) (by simp [results, Tryz.results51, go_sem, Rc0, Rc1, Rc2, Rc3, Rc4, Rc5, Rc6, Rc7, Rc8]) rfl ⟨rfl, ?_⟩
      repeat' (first | with_reducible exact B9.out | with_reducible refine Below.setCell ?_ (by first | (simp; done) | (simp; omega)) _)
end
end Go.Proofs.YtalbblaicmdhmaaGreat
