/- Package walk's small calls: contracts. -/
import Derived.Test.YtbhnjaajkolklaaWa
import Derived.Test.YtbhnjaajkolklaaSt
import Derived.Test.YtbhnjaajkolklaaDy
import Derived.Test.YtbhnjaajkolklaaLt
import Derived.Deep.CutBlock
import Derived.Deep.DeepCutAuto
set_option linter.all false
namespace Go.Proofs.Ytbhnjaajkolklaa
open Go.ChangeShapes Go.WideShapes Go.ChangeAt Go.RowKit Go.Deep

/-- How many frames a memory has, and none where it may not be. -/
def framesB (l : Nat) : Int := if okM l = true then (l : Int) / 8 else 0
def hasB (l : Nat) (n : Int) : Bool := decide (0 ≤ n) && decide (n < framesB l)
def tblMay (l : Nat) (st lv pg : Int) : Bool := okM l && (placeB st lv && numB pg 4095)

theorem tableOf_any (f : Option Addr) (l c : Nat) (st lv fr pg : Int) (w : World) :
    Calls Try.prog 68 #[.agg #[.slice f l c], .int .i64 st, .int .i64 lv, .int .i64 fr, .int .i64 pg] w fun e w' => e = .returned (.agg #[.slice f l c, .int .i64 st, .int .i64 lv, .int .i64 pg, .int .i64 fr]) ∧ Below w.heap.size w w' := by
  go_enter Try.func68, Try.ntmps68
  go_wp2
  go_returns
  exact ⟨rfl, by go_grown⟩
theorem storeMay_any (f : Option Addr) (l c : Nat) (w : World) :
    Calls Try.prog 81 #[.agg #[.slice f l c]] w fun e w' => e = .returned (.bool (okM l)) ∧ Below w.heap.size w w' := by
  cases h : okM l
  all_goals
    go_enter Try.func81, Try.ntmps81
    go_wp2_with fail
    refine (mcheck_any _ _ _ _).mono ?_
    rw [h]
    rintro e w1 ⟨rfl, hb1⟩
    go_wp2
    go_ret
    exact ⟨rfl, bel_trans (bel_alloc (Below.refl _ _) _) hb1⟩
theorem has_any (f : Option Addr) (l c : Nat) (n : Int) (w : World) :
    Calls Try.prog 83 #[.agg #[.slice f l c], .int .i64 n] w fun e w' => e = .returned (.bool (hasB l n)) ∧ Below w.heap.size w w' := by
  obtain ⟨N, k, hN, hT⟩ : ∃ N k : Int, framesB l = N ∧ (if okM l = true then Value.tuple #[.int .i64 ((l : Int) / 8), .int .i64 0] else .tuple #[.int .i64 0, .int .i64 1]) = .tuple #[.int .i64 N, .int .i64 k] := by
    unfold framesB
    cases okM l
    · exact ⟨0, 1, rfl, rfl⟩
    · exact ⟨_, 0, rfl, rfl⟩
  have HT := Lib.hid hT
  unfold hasB
  rw [hN]
  clear hT hN
  cases d0 : decide (0 ≤ n)
  all_goals
    go_enter Try.func83, Try.ntmps83
    go_wp2_with fail
    refine (frames_any _ _ _ _).mono ?_
    rw [HT.out]
    rintro e w1 ⟨rfl, hb1⟩
    go_wp2
    go_ret
    exact ⟨by first | rfl | simp, bel_trans (bel_alloc (Below.refl _ _) _) hb1⟩
theorem mayE_zeros (st lv : Int) : mayE st lv (Dsc.mk 0 0 false false false false false 0 0) = placeB st lv := by
  simp [mayE, mayD, noneD, eqD]
theorem spotMay_any (st lv pg : Int) (w : World) :
    Calls Try.prog 82 #[.agg #[.int .i64 st, .int .i64 lv, .int .i64 pg]] w fun e w' => e = .returned (.bool (placeB st lv && numB pg 4095)) ∧ Below w.heap.size w w' := by
  have M0 := Lib.hid (BoxAt.new w #[.int .i64 st, .int .i64 lv, .int .i64 pg] 118)
  have B0 := Lib.hid (bel_alloc (Below.refl w.heap.size w) (.cells #[.int .i64 st, .int .i64 lv, .int .i64 pg] 118))
  cases hi : (numB lv 3 && numB pg 4095)
  · have hr : (placeB st lv && numB pg 4095) = false := by
      rw [Bool.and_eq_false_iff] at hi ⊢
      rcases hi with hi | hi
      · left; rw [numB_no] at hi; rw [placeB_no]; exact fun h => hi h.2
      · exact Or.inr hi
    rw [hr]
    clear hr
    have HI := Lib.hid (fun W => dindex_no lv pg W hi)
    clear hi
    go_enter Try.func82, Try.ntmps82
    go_wp2_with fail
    refine (HI.out _).mono ?_
    rintro e w1 ⟨rfl, rfl⟩
    go_wp2
    go_ret
    exact ⟨rfl, B0.out⟩
  · obtain ⟨h1, h2⟩ := Bool.and_eq_true_iff.1 hi
    have HI := Lib.hid (fun W => dindex_yes lv pg W h1 h2)
    rw [h2]
    clear hi h1 h2
    generalize idx lv pg = g at *
    cases hp : placeB st lv
    all_goals
      have HC := Lib.hid (fun W => check_any st lv 0 0 false false false false false 0 0 W _ ((mayE_zeros st lv).trans hp))
      clear hp
      go_enter Try.func82, Try.ntmps82
      go_wp2_with fail
      refine (HI.out _).mono ?_
      rintro e w1 ⟨rfl, hb1⟩
      have M1 := M0.out.below hb1
      have B1 := Lib.hid (bel_trans B0.out hb1)
      have c0 := M1.get 0 (.int .i64 st) rfl
      have c1 := M1.get 1 (.int .i64 lv) rfl
      clear M1 hb1
      go_wp2_with fail
      refine (HC.out _).mono ?_
      rintro e w2 ⟨rfl, hb2⟩
      go_wp2
      go_ret
      exact ⟨rfl, bel_trans B1.out hb2⟩
theorem tableMay_any (f : Option Addr) (l c : Nat) (st lv pg fr : Int) (w : World) :
    Calls Try.prog 69 #[.agg #[.slice f l c, .int .i64 st, .int .i64 lv, .int .i64 pg, .int .i64 fr]] w fun e w' => e = .returned (.bool (tblMay l st lv pg)) ∧ Below w.heap.size w w' := by
  have M0 := Lib.hid (BoxAt.new w #[.slice f l c, .int .i64 st, .int .i64 lv, .int .i64 pg, .int .i64 fr] 120)
  have B0 := Lib.hid (bel_alloc (Below.refl w.heap.size w) (.cells #[.slice f l c, .int .i64 st, .int .i64 lv, .int .i64 pg, .int .i64 fr] 120))
  unfold tblMay
  cases h : okM l
  · go_enter Try.func69, Try.ntmps69
    go_wp2_with fail
    refine (storeMay_any _ _ _ _).mono ?_
    rw [h]
    rintro e w1 ⟨rfl, hb1⟩
    go_wp2
    go_ret
    exact ⟨rfl, bel_trans B0.out hb1⟩
  · go_enter Try.func69, Try.ntmps69
    go_wp2_with fail
    refine (storeMay_any _ _ _ _).mono ?_
    rw [h]
    rintro e w1 ⟨rfl, hb1⟩
    have M1 := M0.out.below hb1
    have B1 := Lib.hid (bel_trans B0.out hb1)
    have c1 := M1.get 1 (.int .i64 st) rfl
    have c2 := M1.get 2 (.int .i64 lv) rfl
    have c3 := M1.get 3 (.int .i64 pg) rfl
    clear M1 hb1
    go_wp2_with fail
    refine (spotMay_any _ _ _ _).mono ?_
    rintro e w2 ⟨rfl, hb2⟩
    go_wp2
    go_ret
    exact ⟨ret_bool (by simp), bel_trans B1.out hb2⟩
theorem there_any (f : Option Addr) (l c : Nat) (st lv pg fr : Int) (w : World) :
    Calls Try.prog 70 #[.agg #[.slice f l c, .int .i64 st, .int .i64 lv, .int .i64 pg, .int .i64 fr]] w fun e w' => e = .returned (.bool (hasB l fr)) ∧ Below w.heap.size w w' := by
  go_enter Try.func70, Try.ntmps70
  go_wp2_with fail
  refine (has_any _ _ _ _ _).mono ?_
  rintro e w1 ⟨rfl, hb1⟩
  go_wp2
  go_ret
  exact ⟨rfl, bel_trans (bel_alloc (Below.refl _ _) _) hb1⟩
theorem rd_whole (X : Nat → BitVec 64) (a : Int) (h : a % 8 = 0) : rdV X a 8 = X (a / 8).toNat := by
  unfold rdV
  rw [h]
  show X _ >>> 0 &&& msk 64 = _
  rw [BitVec.ushiftRight_zero, show msk 64 = BitVec.allOnes 64 from by decide, BitVec.and_allOnes]
set_option maxRecDepth 100000 in
theorem desc_table (f : Option Addr) (l c : Nat) (X : Nat → BitVec 64) (st lv pg fr : Int) (w : World) (hX : WordsAt w f l X) (hM : okM l = true) (hp : placeB st lv = true) (p0 : 0 ≤ pg) (p1 : pg ≤ 4095) (f0 : 0 ≤ fr) (f1 : fr < (l : Int) / 8) :
    Calls Try.prog 71 #[.agg #[.slice f l c, .int .i64 st, .int .i64 lv, .int .i64 pg, .int .i64 fr]] w fun e w' => e = .returned (dscV (tblD X st lv fr pg)) ∧ Below w.heap.size w w' := by
  obtain ⟨l0, l1, l2⟩ := okM_true hM
  have hlv := (placeB_iff.1 hp).2
  have HI := Lib.hid (fun W => dindex_yes lv pg W (numB_iff.2 hlv) (numB_iff.2 ⟨p0, p1⟩))
  have hg : 0 ≤ idx lv pg ∧ idx lv pg ≤ 7 := idx_lo lv pg
  have ht : tblD X st lv fr pg = ofD st lv (X (fr * 8 + idx lv pg).toNat) := rfl
  rw [ht]
  have HO := Lib.hid (fun v W => of_any st lv v W hp)
  clear ht hp hlv p0 p1
  generalize idx lv pg = g at *
  obtain ⟨g0, g1⟩ := hg
  have i1 : IntKind.i64.wrap (fr * 64) = fr * 64 := IntWalk.i64_in _ (by omega)
  have i2 : IntKind.i64.wrap (g * 8) = g * 8 := IntWalk.i64_in _ (by omega)
  have i3 : IntKind.i64.wrap (fr * 64 + g * 8) = fr * 64 + g * 8 := IntWalk.i64_in _ (by omega)
  have hE : mayM l (fr * 64 + g * 8) 8 = 0 := by
    unfold mayM
    rw [if_neg (by decide), if_neg (by omega), if_neg (by simp; omega)]
  have hR : rdV X (fr * 64 + g * 8) 8 = X (fr * 8 + g).toNat := by
    rw [rd_whole _ _ (by omega)]
    congr 2
    omega
  have HR := Lib.hid (fun W (hW : WordsAt W f l X) => read_ok f l c X (fr * 64 + g * 8) 8 W hW hM hE)
  rw [hR] at HR
  clear hE hR hM l2
  generalize X (fr * 8 + g).toNat = v at *
  have HO := Lib.hid (fun W => HO.out v W)
  generalize ofD st lv v = d at *
  have HX := Lib.hid hX
  clear hX
  have M0 := Lib.hid ((BoxAt.new w #[.slice f l c, .int .i64 st, .int .i64 lv, .int .i64 pg, .int .i64 fr] 120).alloc (.cells z9 34))
  have R0 := Lib.hid (BoxAt.newAt (w.alloc (.cells #[.slice f l c, .int .i64 st, .int .i64 lv, .int .i64 pg, .int .i64 fr] 120)) z9 34 (w.heap.size + 1) (by simp))
  have B0 := Lib.hid (bel_alloc (bel_alloc (Below.refl w.heap.size w) (.cells #[.slice f l c, .int .i64 st, .int .i64 lv, .int .i64 pg, .int .i64 fr] 120)) (.cells z9 34))
  go_enter Try.func71, Try.ntmps71
  go_upto_region 1 with fail
  obtain ⟨W0, hW0⟩ : ∃ W0, W0 = (w.alloc (.cells #[.slice f l c, .int .i64 st, .int .i64 lv, .int .i64 pg, .int .i64 fr] 120)).alloc (.cells z9 34) := ⟨_, rfl⟩
  rw [← hW0] at M0 R0 B0 ⊢
  clear hW0
  have Mc2 := M0.out.get 2 (.int .i64 lv) rfl
  have Mc3 := M0.out.get 3 (.int .i64 pg) rfl
  go_wp2_with fail
  refine (HI.out _).mono ?_
  rintro e w1 ⟨rfl, hb1⟩
  have M2 := Lib.hid (M0.out.below hb1)
  have R2 := Lib.hid (R0.out.below hb1)
  have B2 := Lib.hid (bel_trans B0.out hb1)
  clear Mc2 Mc3
  clear M0 R0 B0 hb1
  have Mc0 := M2.out.get 0 (.slice f l c) rfl
  have Mc4 := M2.out.get 4 (.int .i64 fr) rfl
  have HW := HX.out.below B2.out
  go_wp2_with fail
  refine (HR.out _ HW).mono ?_
  rintro e w3 ⟨rfl, hb3⟩
  clear HW
  have M4 := Lib.hid (M2.out.below hb3)
  have R4 := Lib.hid (R2.out.below hb3)
  have B4 := Lib.hid (bel_trans B2.out hb3)
  clear Mc0 Mc4
  clear M2 R2 B2 hb3
  have Mc1 := M4.out.get 1 (.int .i64 st) rfl
  have Mc2 := M4.out.get 2 (.int .i64 lv) rfl
  go_wp2_with fail
  refine (HO.out _).mono ?_
  rintro e w5 ⟨rfl, hb5⟩
  have M6 := Lib.hid (M4.out.below hb5)
  have R6 := Lib.hid (R4.out.below hb5)
  have B6 := Lib.hid (bel_trans B4.out hb5)
  clear Mc1 Mc2
  clear M4 R4 B4 hb5
  unfold dscV
  go_upto_region 4 with fail
  have M7 := Lib.hid ((M6.out.alloc (.cells #[.int .i64 d.k, .int .i64 d.f, .bool d.r, .bool d.w, .bool d.x, .bool d.a, .bool d.n, .int .i64 d.s, .int .i64 d.o] 34)))
  have R7 := Lib.hid ((R6.out.alloc (.cells #[.int .i64 d.k, .int .i64 d.f, .bool d.r, .bool d.w, .bool d.x, .bool d.a, .bool d.n, .int .i64 d.s, .int .i64 d.o] 34)))
  have D7 := Lib.hid ((BoxAt.newAt _ #[.int .i64 d.k, .int .i64 d.f, .bool d.r, .bool d.w, .bool d.x, .bool d.a, .bool d.n, .int .i64 d.s, .int .i64 d.o] 34 (w5.heap.size) (by first | rfl | (simp; done) | (simp; omega))))
  have B7 := Lib.hid ((bel_alloc B6.out (.cells #[.int .i64 d.k, .int .i64 d.f, .bool d.r, .bool d.w, .bool d.x, .bool d.a, .bool d.n, .int .i64 d.s, .int .i64 d.o] 34)))
  clear M6 R6 B6
  obtain ⟨W8, hW8⟩ : ∃ W8, W8 = w5.alloc (.cells #[.int .i64 d.k, .int .i64 d.f, .bool d.r, .bool d.w, .bool d.x, .bool d.a, .bool d.n, .int .i64 d.s, .int .i64 d.o] 34) := ⟨_, rfl⟩
  obtain ⟨G8, hG8⟩ : ∃ G8, G8 = w5.heap.size := ⟨_, rfl⟩
  rw [← hW8] at M7 R7 D7 B7 ⊢
  rw [← hG8] at D7 ⊢
  clear hW8 hG8
  have Dc0 := D7.out.get 0 (.int .i64 d.k) rfl
  have Dc1 := D7.out.get 1 (.int .i64 d.f) rfl
  have Dc2 := D7.out.get 2 (.bool d.r) rfl
  have Dc3 := D7.out.get 3 (.bool d.w) rfl
  have Dc4 := D7.out.get 4 (.bool d.x) rfl
  have Dc5 := D7.out.get 5 (.bool d.a) rfl
  have Dc6 := D7.out.get 6 (.bool d.n) rfl
  have Dc7 := D7.out.get 7 (.int .i64 d.s) rfl
  have Dc8 := D7.out.get 8 (.int .i64 d.o) rfl
  have Rc0 := R7.out.get 0 (.int .i64 0) rfl
  have Rc1 := R7.out.get 1 (.int .i64 0) rfl
  have Rc2 := R7.out.get 2 (.bool false) rfl
  have Rc3 := R7.out.get 3 (.bool false) rfl
  have Rc4 := R7.out.get 4 (.bool false) rfl
  have Rc5 := R7.out.get 5 (.bool false) rfl
  have Rc6 := R7.out.get 6 (.bool false) rfl
  have Rc7 := R7.out.get 7 (.int .i64 0) rfl
  have Rc8 := R7.out.get 8 (.int .i64 0) rfl
  have Rz0 := R7.out.free 0
  have Rz1 := R7.out.free 1
  have Rz2 := R7.out.free 2
  have Rz3 := R7.out.free 3
  have Rz4 := R7.out.free 4
  have Rz5 := R7.out.free 5
  have Rz6 := R7.out.free 6
  have Rz7 := R7.out.free 7
  have Rz8 := R7.out.free 8
  go_wp2
  refine bodyPost_ret (v := .agg #[.int .i64 d.k, .int .i64 d.f, .bool d.r, .bool d.w, .bool d.x, .bool d.a, .bool d.n, .int .i64 d.s, .int .i64 d.o]) (by simp [results, Try.results71, go_sem, Rc0, Rc1, Rc2, Rc3, Rc4, Rc5, Rc6, Rc7, Rc8]) rfl ⟨rfl, ?_⟩
  repeat' (first | with_reducible exact B7.out | with_reducible refine Below.setCell ?_ (by first | (simp; done) | (simp; omega)) _)
end Go.Proofs.Ytbhnjaajkolklaa
