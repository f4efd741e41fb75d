/- Package nest's trip: pass, mayBegin, tripOf: contracts. Package nest's follow, end, Trans: contracts. -/
import Derived.Test.YtalbblaicmdhmaaGreatNcb
set_option linter.all false
namespace Go.Proofs.YtalbblaicmdhmaaGreat
section
open Go.ChangeShapes Go.WideShapes Go.ChangeAt Go.RowKit Go.Deep

/-- Where a leaf of stage 1 leads to. -/
def passD (l : Nat) (X : Nat → BitVec 64) (on : Bool) (tf pg acc lv : Int) (d : Dsc) : Hit × Flt × List Int :=
  if (flagA d.at' acc 1 lv pg).k = 0 then landD l X on tf (d.f + pg % cov lv) acc lv [d.at'] else (hit0, flagA d.at' acc 1 lv pg, [])
def TripN (f : Option Addr) (l c : Nat) (on : Bool) (tf tg : Int) (on1 : Bool) (of1 og1 pg acc1 : Int) (tb B : Nat) (R : List Int) (q : Hit × Flt × List Int) (w : World) (e : Ending) (w' : World) : Prop :=
  ∃ f2 c2 cur lv, e = .returned (.tuple #[hitV q.1, fltV q.2.1]) ∧ BoxAt w' tb #[.slice f l c, .bool on, .int .i64 tf, .int .i64 tg, .slice f2 (R ++ q.2.2).length c2, .bool on1, .int .i64 of1, .int .i64 og1, .int .i64 pg, .int .i64 acc1, .int .i64 cur, .int .i64 lv] 58 ∧ OwnI w' B (.slice f2 (R ++ q.2.2).length c2) (R ++ q.2.2) ∧ Kep tb B [3] w w'
set_option maxRecDepth 100000 in
set_option maxHeartbeats 3200000 in
theorem npass_any (f : Option Addr) (l c : Nat) (X : Nat → BitVec 64) (on : Bool) (tf tg : Int) (on1 : Bool) (of1 og1 pg acc1 cur lv : Int) (d : Dsc) (f' : Option Addr) (c' : Nat) (R : List Int) (tb B : Nat) (w0 w : World) (hac : numB acc1 2 = true) (hX : WordsAt w0 f l X) (hlc : l ≤ c) (hM : okM l = true) (t0 : 0 ≤ tf) (t1 : tf ≤ 4095)
    (hB0 : Below w0.heap.size w0 w) (h0 : w0.heap.size ≤ tb) (hBw : B ≤ w.heap.size) (htB : tb < B) (hO : OwnI w B (.slice f' R.length c') R) (hk : R.length ≤ 50) (p0 : 0 ≤ pg) (g0 : 0 ≤ lv) (g3 : lv ≤ 3) (d0 : 0 ≤ d.f) (d1 : d.f + pg % cov lv ≤ 4095) (hT : BoxAt w tb #[.slice f l c, .bool on, .int .i64 tf, .int .i64 tg, .slice f' R.length c', .bool on1, .int .i64 of1, .int .i64 og1, .int .i64 pg, .int .i64 acc1, .int .i64 cur, .int .i64 lv] 58) :
    Calls Tryz.prog 38 #[.pointer (some ⟨tb, 0, none⟩), dscV d] w (TripN f l c on tf tg on1 of1 og1 pg acc1 tb B R (passD l X on tf pg acc1 lv d) w) := by
  obtain ⟨pm, hpm⟩ : ∃ pm, pm = pg % cov lv := ⟨_, rfl⟩
  have q0 : 0 ≤ pm := by rw [hpm]; exact Int.emod_nonneg _ (by have := cov_pos lv; omega)
  have HWI := Lib.hid (fun W rd hT => nwithin_any f l c on tf tg on1 of1 og1 pg acc1 cur lv rd tb W hT g0 g3 p0)
  rw [← hpm] at HWI d1
  have hq : passD l X on tf pg acc1 lv d = if (flagA d.at' acc1 1 lv pg).k = 0 then landD l X on tf (d.f + pm) acc1 lv [d.at'] else (hit0, flagA d.at' acc1 1 lv pg, []) := by rw [hpm]; rfl
  rw [hq]
  clear hq hpm
  have i1 : IntKind.i64.wrap (d.f + pm) = d.f + pm := IntWalk.i64_in _ (by omega)
  have HLD := Lib.hid (fun ab W hB0 hBw hO hT hab hne => nlandS_any f l c X on tf tg on1 of1 og1 pg acc1 (d.f + pm) lv d.at' ab f' c' R tb B w0 W hac hX hlc hM t0 t1 hB0 h0 hBw htB hO hk (by omega) d1 hT hab hne)
  have HG := Lib.hid (fun W => flagC d.at' acc1 1 lv pg W)
  simp only [if_pos hac] at HG
  have HIF := Lib.hid (fun fk fs fl fw fp W => nfault_any ⟨fk, fs, fl, fw, fp⟩ W)
  unfold fltV at HIF
  simp only at HIF
  have HGO := Lib.hid (fun rd a b W hT => ngoTo_any f l c on tf tg on1 of1 og1 pg acc1 cur lv rd a b tb W hT)
  have T0 := Lib.hid hT
  have O0 := Lib.hid hO
  have HB0 := Lib.hid hB0
  have HX := Lib.hid hX
  have K0 := Lib.hid (Kep.refl (tb := tb) (B := B) (ow := [3]) w)
  clear hX hB0 hT hO
  clear t0 t1 hlc hM hac HX p0 g0 g3 hk
  obtain ⟨g, hg⟩ : ∃ g, g = flagA d.at' acc1 1 lv pg := ⟨_, rfl⟩
  rw [← hg] at HG ⊢
  clear hg
  obtain ⟨q, hq⟩ : ∃ q, q = landD l X on tf (d.f + pm) acc1 lv [d.at'] := ⟨_, rfl⟩
  rw [← hq] at HLD ⊢
  clear hq
  obtain ⟨dk, df, dr, dw, dx, da, dn, ds, d0'⟩ := d
  unfold dscV
  simp only [Dsc.at'] at HG HLD i1 d0 d1 ⊢
  clear d0 d1
  obtain ⟨gk, gs, gl, gw, gp⟩ := g
  unfold atrV atrC fltV at HG
  simp only at HG
  simp only
  obtain ⟨⟨hf, hm, ⟨hr, hw, hx, ha, hn, hs⟩, hl⟩, ⟨fk, fs, fl, fw, fp⟩, Q⟩ := q
  unfold LandN hitV fltV at HLD
  simp only at HLD
  unfold atrC at HLD
  simp only at HLD
  by_cases hk0 : gk = 0
  · rw [if_pos hk0]
    have df' : (gk != 0) = false := by rw [hk0]; rfl
    clear hk0
    go_enter Tryz.func38, Tryz.ntmps38
    go_upto_region 1 with fail
    have T1 := Lib.hid ((((T0.out.alloc (.cells #[.int .i64 dk, .int .i64 df, .bool dr, .bool dw, .bool dx, .bool da, .bool dn, .int .i64 ds, .int .i64 d0'] 70)).alloc (.cells z9 40)).alloc (.cells z5 42)))
    have D1 := Lib.hid ((((BoxAt.newAt (w) #[.int .i64 dk, .int .i64 df, .bool dr, .bool dw, .bool dx, .bool da, .bool dn, .int .i64 ds, .int .i64 d0'] 70 (w.heap.size) (by first | omega | (simp; done) | (simp; omega))).alloc (.cells z9 40)).alloc (.cells z5 42)))
    have H1 := Lib.hid (((BoxAt.newAt ((w).alloc (.cells #[.int .i64 dk, .int .i64 df, .bool dr, .bool dw, .bool dx, .bool da, .bool dn, .int .i64 ds, .int .i64 d0'] 70)) z9 40 (w.heap.size + 1) (by first | omega | (simp; done) | (simp; omega))).alloc (.cells z5 42)))
    have F1 := Lib.hid ((BoxAt.newAt (((w).alloc (.cells #[.int .i64 dk, .int .i64 df, .bool dr, .bool dw, .bool dx, .bool da, .bool dn, .int .i64 ds, .int .i64 d0'] 70)).alloc (.cells z9 40)) z5 42 (w.heap.size + 1 + 1) (by first | omega | (simp; done) | (simp; omega))))
    have O1 := Lib.hid ((((O0.out.alloc (.cells #[.int .i64 dk, .int .i64 df, .bool dr, .bool dw, .bool dx, .bool da, .bool dn, .int .i64 ds, .int .i64 d0'] 70)).alloc (.cells z9 40)).alloc (.cells z5 42)))
    have B1 := Lib.hid ((bel_alloc (bel_alloc (bel_alloc HB0.out (.cells #[.int .i64 dk, .int .i64 df, .bool dr, .bool dw, .bool dx, .bool da, .bool dn, .int .i64 ds, .int .i64 d0'] 70)) (.cells z9 40)) (.cells z5 42)))
    have K1 := Lib.hid ((((K0.out.alloc (.cells #[.int .i64 dk, .int .i64 df, .bool dr, .bool dw, .bool dx, .bool da, .bool dn, .int .i64 ds, .int .i64 d0'] 70)).alloc (.cells z9 40)).alloc (.cells z5 42)))
    obtain ⟨g1, hg1⟩ : ∃ g1, g1 = w.heap.size := ⟨_, rfl⟩
    obtain ⟨W1, hW1⟩ : ∃ W1, W1 = (((w).alloc (.cells #[.int .i64 dk, .int .i64 df, .bool dr, .bool dw, .bool dx, .bool da, .bool dn, .int .i64 ds, .int .i64 d0'] 70)).alloc (.cells z9 40)).alloc (.cells z5 42) := ⟨_, rfl⟩
    have hs1 : g1 + 1 + 1 + 1 ≤ W1.heap.size := by rw [hW1, hg1]; simp
    rw [← hW1] at T1 D1 H1 F1 O1 B1 K1 ⊢
    have hb1 : w.heap.size ≤ g1 := by omega
    rw [← hg1] at D1 H1 F1 ⊢
    clear hg1
    clear hW1 T0 O0 HB0 K0
    have hcs : g1 + 1 + 1 + 1 ≤ W1.heap.size := by omega
    refine wp_region_table (X := Unit) () (I0 := fun w' => Below W1.heap.size W1 w') (I1 := fun xJ w' => Below W1.heap.size W1 w') (lo := W1.heap.size) (c := 14) (U := [⟨(some 9), .con (.pointer (some ⟨g1, 2, none⟩))⟩, ⟨(some 10), .ld (.agg #[.bool dr, .bool dw, .bool dx, .bool da, .bool dn, .int .i64 ds])⟩, ⟨(some 11), .con (.pointer (some ⟨tb, 0, none⟩))⟩, ⟨(some 12), .con (.pointer (some ⟨tb, 0, none⟩))⟩, ⟨(some 13), .con (.pointer (some ⟨tb, 9, none⟩))⟩, ⟨(some 14), .ld (.int .i64 acc1)⟩, ⟨(some 15), .con (.pointer (some ⟨tb, 0, none⟩))⟩, ⟨(some 16), .con (.pointer (some ⟨tb, 0, none⟩))⟩, ⟨(some 17), .con (.pointer (some ⟨tb, 11, none⟩))⟩, ⟨(some 18), .ld (.int .i64 lv)⟩, ⟨(some 19), .con (.pointer (some ⟨tb, 0, none⟩))⟩, ⟨(some 20), .con (.pointer (some ⟨tb, 0, none⟩))⟩, ⟨(some 21), .con (.pointer (some ⟨tb, 8, none⟩))⟩, ⟨(some 22), .ld (.int .i64 pg)⟩, ⟨(some 23), .cal fun xJ => .tuple #[.agg #[.int .i64 gk, .int .i64 gs, .int .i64 gl, .bool gw, .int .i64 gp], .int .i64 0]⟩, ⟨(some 8), .res fun xJ => .tuple #[.agg #[.int .i64 gk, .int .i64 gs, .int .i64 gl, .bool gw, .int .i64 gp], .int .i64 0]⟩, ⟨(some 24), .res fun xJ => .agg #[.int .i64 gk, .int .i64 gs, .int .i64 gl, .bool gw, .int .i64 gp]⟩, ⟨(some 25), .res fun xJ => .int .i64 0⟩, ⟨(some 6), .new 42 #[.int .i64 0, .int .i64 0, .int .i64 0, .bool false, .int .i64 0]⟩, ⟨none, .sto 18 fun xJ => #[.int .i64 gk, .int .i64 gs, .int .i64 gl, .bool gw, .int .i64 gp]⟩, ⟨(some 7), .res fun xJ => .int .i64 0⟩])
      (V := fun xJ => .tuple #[.agg #[.int .i64 gk, .int .i64 gs, .int .i64 gl, .bool gw, .int .i64 gp], .int .i64 0]) (f := 48) (args := #[.agg #[.bool dr, .bool dw, .bool dx, .bool da, .bool dn, .int .i64 ds], .int .i64 acc1, .int .i64 1, .int .i64 lv, .int .i64 pg]) (dc := some 23) (by kernel_rfl) (fun _ _ => rfl) (by kernel_rfl) (by kernel_rfl) rfl
      (AllObl.all ⟨fun _ _ _ => by kernel_rfl, fun _ _ _ hJ => run_ldN 38 (.tmp 9) g1 2 (by kernel_rfl) (by kernel_rfl) Tryz.underlying38 rfl (by kernel_rfl) ((D1.out.below hJ).sub 2 _ rfl), fun _ _ _ => by kernel_rfl, fun _ _ _ => by kernel_rfl, fun _ _ _ => by kernel_rfl, fun _ _ _ hJ => run_ld1 3 (.tmp 13) tb 9 (by kernel_rfl) (by kernel_rfl) Tryz.underlying3 rfl ((T1.out.below hJ).get 9 (.int .i64 acc1) rfl), fun _ _ _ => by kernel_rfl, fun _ _ _ => by kernel_rfl, fun _ _ _ => by kernel_rfl, fun _ _ _ hJ => run_ld1 3 (.tmp 17) tb 11 (by kernel_rfl) (by kernel_rfl) Tryz.underlying3 rfl ((T1.out.below hJ).get 11 (.int .i64 lv) rfl), fun _ _ _ => by kernel_rfl, fun _ _ _ => by kernel_rfl, fun _ _ _ => by kernel_rfl, fun _ _ _ hJ => run_ld1 3 (.tmp 21) tb 8 (by kernel_rfl) (by kernel_rfl) Tryz.underlying3 rfl ((T1.out.below hJ).get 8 (.int .i64 pg) rfl), trivial, fun _ _ _ => by kernel_rfl, fun _ _ _ => by kernel_rfl, fun _ _ _ => by kernel_rfl, fun _ _ _ => by kernel_rfl, ⟨_, _, _, rfl, fun _ _ _ hJ => run_stoB 42 (.tmp 6) (.tmp 24) _ (by kernel_rfl) (by kernel_rfl) (by kernel_rfl) (by kernel_rfl) (by rfl) (by simp [Value.oneCell']) hJ⟩, fun _ _ _ => by kernel_rfl, trivial⟩)
      (fun _ oJ hJ => bel_alloc hJ oJ) (fun xJ _ oJ hJ => bel_alloc hJ oJ) (fun xJ _ bJ csJ dsJ tJ iJ zJ dJ hiJ hbJ hxJ hJ => Below.rowB (g := bJ) hJ (cs := dsJ) hbJ) (fun _ hJ => hJ.size) (fun xJ _ hJ => hJ.size) (fun _ _ _ _ => by kernel_rfl)
      (fun wJ hJ => (HG.out _).mono (by rintro _ w2J ⟨rfl, hb⟩; exact ⟨(), rfl, bel_trans hJ hb, fun bJ csJ tJ iJ zJ dJ hiJ hlJ hxJ => hxJ.below hb⟩)) (Below.drew (Below.refl _ _)) ?_
    rintro _ βJ w2c q2_0 hNW
    obtain ⟨hbJ2, QJ2⟩ := hNW.full 18 19 (by kernel_rfl) rfl rfl
    clear hNW
    simp only [putU, if_true, Act.put, Knd.val, List.setIfInBounds_toArray, List.set_cons_zero, List.set_cons_succ]
    generalize βJ 18 = bJ at *
    clear βJ
    have hz2 := q2_0.size
    have T2 := Lib.hid (T1.out.below q2_0)
    have D2 := Lib.hid (D1.out.below q2_0)
    have H2 := Lib.hid (H1.out.below q2_0)
    have F2 := Lib.hid (F1.out.below q2_0)
    have O2 := Lib.hid (O1.out.below q2_0)
    have B2 := Lib.hid (bel_trans B1.out q2_0)
    have K2 := Lib.hid (K1.out.step q2_0)
    have Jn2 := Lib.hid (QJ2)
    obtain ⟨m2, hm2⟩ : ∃ m2, m2 = w2c.heap.size := ⟨_, rfl⟩
    have hbm2 : g1 + 1 + 1 + 1 ≤ m2 := by omega
    have hlJ2 : bJ + 1 ≤ m2 := by rw [hm2]; exact QJ2.lt
    have hgJ2 : g1 + 1 + 1 + 1 ≤ bJ := by omega
    have hs2 : m2 ≤ w2c.heap.size := by omega
    clear hm2 hz2 hcs q2_0 QJ2 hbJ2 T1 D1 H1 F1 O1 B1 K1 hs1
    have Jc0 := Jn2.out.get 0 (.int .i64 gk) rfl
    have Jc1 := Jn2.out.get 1 (.int .i64 gs) rfl
    have Jc2 := Jn2.out.get 2 (.int .i64 gl) rfl
    have Jc3 := Jn2.out.get 3 (.bool gw) rfl
    have Jc4 := Jn2.out.get 4 (.int .i64 gp) rfl
    go_wp2_with fail
    refine (HIF.out _ _ _ _ _ _).mono ?_
    rintro e w3 ⟨rfl, hb3⟩
    have hz3 := hb3.size
    have T3 := Lib.hid (T2.out.below hb3)
    have D3 := Lib.hid (D2.out.below hb3)
    have H3 := Lib.hid (H2.out.below hb3)
    have F3 := Lib.hid (F2.out.below hb3)
    have J3 := Lib.hid (Jn2.out.below hb3)
    have O3 := Lib.hid (O2.out.below hb3)
    have B3 := Lib.hid (bel_trans B2.out hb3)
    have K3 := Lib.hid (K2.out.step hb3)
    skip
    have hs3 : m2 ≤ w3.heap.size := by omega
    clear Jc0 Jc1 Jc2 Jc3 Jc4
    clear T2 D2 H2 F2 Jn2 O2 B2 K2 hs2 hb3 hz3
    go_upto_region 4 with fail
    refine wp_region_tail [10] (fun _ => True) (fun w' => BoxAt w' (tb) #[.slice f l c, .bool on, .int .i64 tf, .int .i64 tg, .slice f' R.length c', .bool on1, .int .i64 of1, .int .i64 og1, .int .i64 pg, .int .i64 acc1, .int .i64 cur, .int .i64 lv] 58 ∧ BoxAt w' (g1) #[.int .i64 dk, .int .i64 df, .bool dr, .bool dw, .bool dx, .bool da, .bool dn, .int .i64 ds, .int .i64 d0'] 70) (by kernel_rfl) ?_
    have hS : (fun w' => BoxAt w' (tb) #[.slice f l c, .bool on, .int .i64 tf, .int .i64 tg, .slice f' R.length c', .bool on1, .int .i64 of1, .int .i64 og1, .int .i64 pg, .int .i64 acc1, .int .i64 cur, .int .i64 lv] 58 ∧ BoxAt w' (g1) #[.int .i64 dk, .int .i64 df, .bool dr, .bool dw, .bool dx, .bool da, .bool dn, .int .i64 ds, .int .i64 d0'] 70) w3.drew := ⟨T3.out.drew, D3.out.drew⟩
    skip
    have T4 := Lib.hid ((T3.out.drew))
    have D4 := Lib.hid ((D3.out.drew))
    have H4 := Lib.hid ((H3.out.drew))
    have F4 := Lib.hid ((F3.out.drew))
    have J4 := Lib.hid ((J3.out.drew))
    have O4 := Lib.hid ((O3.out.drew))
    have B4 := Lib.hid ((Below.drew B3.out))
    have K4 := Lib.hid ((K3.out.drew))
    obtain ⟨W4, hW4⟩ : ∃ W4, W4 = (w3).drew := ⟨_, rfl⟩
    have hs4 : m2 ≤ W4.heap.size := by rw [hW4]; first | exact hs3 | (simp; omega)
    rw [← hW4] at T4 D4 H4 F4 J4 O4 B4 K4 hS ⊢
    clear hW4 T3 D3 H3 F3 J3 O3 B3 K3 hs3
    refine tail_read 0 (oi := ⟨some 30, _, _, _, _, _⟩) (v := ?_) rfl (by kernel_rfl) (by kernel_rfl) (by kernel_rfl) (by kernel_rfl) (fun _ _ _ h => h) ⟨trivial, hS⟩ (Or.inl ⟨by rfl, ?_⟩) ?_
    rotate_left
    · (intro w' hSw; clear hSw; go_simp; try with_reducible rfl)
    simp only [Act.put, List.setIfInBounds_toArray, List.set_cons_zero, List.set_cons_succ]
    refine tail_read 1 (oi := ⟨some 31, _, _, _, _, _⟩) (v := ?_) rfl (by kernel_rfl) (by kernel_rfl) (by kernel_rfl) (by kernel_rfl) (fun _ _ _ h => h) ⟨trivial, hS⟩ (Or.inl ⟨by rfl, ?_⟩) ?_
    rotate_left
    · (intro w' hSw; clear hSw; go_simp; try with_reducible rfl)
    simp only [Act.put, List.setIfInBounds_toArray, List.set_cons_zero, List.set_cons_succ]
    refine tail_read 2 (oi := ⟨some 32, _, _, _, _, _⟩) (v := ?_) rfl (by kernel_rfl) (by kernel_rfl) (by kernel_rfl) (by kernel_rfl) (fun _ _ _ h => h) ⟨trivial, hS⟩ (Or.inl ⟨by rfl, ?_⟩) ?_
    rotate_left
    · (intro w' hSw; clear hSw; go_simp; try with_reducible rfl)
    simp only [Act.put, List.setIfInBounds_toArray, List.set_cons_zero, List.set_cons_succ]
    refine tail_read 3 (oi := ⟨some 33, _, _, _, _, _⟩) (v := ?_) rfl (by kernel_rfl) (by kernel_rfl) (by kernel_rfl) (by kernel_rfl) (fun _ _ _ h => h) ⟨trivial, hS⟩ (Or.inl ⟨by rfl, ?_⟩) ?_
    rotate_left
    · (intro w' hSw; clear hSw; go_simp; try with_reducible rfl)
    simp only [Act.put, List.setIfInBounds_toArray, List.set_cons_zero, List.set_cons_succ]
    refine tail_chain 4 [10] (oi := ⟨some 34, _, _, _, _, _⟩) (v := ?_) rfl (by kernel_rfl) (by kernel_rfl) (by kernel_rfl) (by kernel_rfl) (fun _ _ _ h => h) ⟨trivial, hS⟩ (Or.inl ⟨by rfl, ?_⟩) ?_
    rotate_left
    · (intro w' hSw; have c0_11 := (hSw.1).get 11 (.int .i64 lv) rfl; clear hSw; go_simp; try with_reducible rfl)
    simp only [Act.put, List.setIfInBounds_toArray, List.set_cons_zero, List.set_cons_succ]
    refine tail_read 5 (oi := ⟨some 35, _, _, _, _, _⟩) (v := ?_) rfl (by kernel_rfl) (by kernel_rfl) (by kernel_rfl) (by kernel_rfl) (fun _ _ _ h => h) ⟨trivial, hS⟩ (Or.inl ⟨by rfl, ?_⟩) ?_
    rotate_left
    · (intro w' hSw; clear hSw; go_simp; try with_reducible rfl)
    simp only [Act.put, List.setIfInBounds_toArray, List.set_cons_zero, List.set_cons_succ]
    refine tail_chain 6 [9, 10] (oi := ⟨some 36, _, _, _, _, _⟩) (v := ?_) rfl (by kernel_rfl) (by kernel_rfl) (by kernel_rfl) (by kernel_rfl) (fun _ _ _ h => h) ⟨trivial, hS⟩ (Or.inl ⟨by rfl, ?_⟩) ?_
    rotate_left
    · (intro w' hSw; have c1_1 := (hSw.2).get 1 (.int .i64 df) rfl; clear hSw; go_simp; try with_reducible rfl)
    simp only [Act.put, List.setIfInBounds_toArray, List.set_cons_zero, List.set_cons_succ]
    refine tail_read 7 (oi := ⟨some 37, _, _, _, _, _⟩) (v := ?_) rfl (by kernel_rfl) (by kernel_rfl) (by kernel_rfl) (by kernel_rfl) (fun _ _ _ h => h) ⟨trivial, hS⟩ (Or.inl ⟨by rfl, ?_⟩) ?_
    rotate_left
    · (intro w' hSw; clear hSw; go_simp; try with_reducible rfl)
    simp only [Act.put, List.setIfInBounds_toArray, List.set_cons_zero, List.set_cons_succ]
    refine tail_one 8 (o := ⟨some 38, _, _, _, _, _⟩) (by kernel_rfl) rfl (fun K hK => ?_)
    go_simp
    refine (HWI.out _ _ T4.out).mono ?_
    rintro e w5 ⟨rfl, rfl⟩
    refine hK.out _ _ ?_ (fun hS' => ?_)
    · exact ⟨trivial, hS⟩
    clear hK K hS
    have hS := hS'.2
    clear hS'
    try simp only [Act.put, List.setIfInBounds_toArray, List.set_cons_zero, List.set_cons_succ]
    refine tail_read 9 (oi := ⟨some 39, _, _, _, _, _⟩) (v := ?_) rfl (by kernel_rfl) (by kernel_rfl) (by kernel_rfl) (by kernel_rfl) (fun _ _ _ h => h) ⟨trivial, hS⟩ (Or.inl ⟨by rfl, ?_⟩) ?_
    rotate_left
    · (intro w' hSw; clear hSw; go_simp; try with_reducible rfl)
    simp only [Act.put, List.setIfInBounds_toArray, List.set_cons_zero, List.set_cons_succ]
    refine tail_last 10 (o := ⟨some 40, _, _, _, _, _⟩) (by decide) (by kernel_rfl) rfl (fun K hK => ?_)
    go_simp
    refine (HGO.out _ _ _ _ T4.out).mono ?_
    rintro e w6 ⟨rfl, rfl⟩
    refine hK.out _ _ trivial ?_
    clear hK K
    try simp only [Act.put, List.setIfInBounds_toArray, List.set_cons_zero, List.set_cons_succ]
    refine tail_done (by kernel_rfl) ?_
    clear hS
    have T7 := Lib.hid (((T4.out.set 11 (.int .i64 lv) #[.slice f l c, .bool on, .int .i64 tf, .int .i64 tg, .slice f' R.length c', .bool on1, .int .i64 of1, .int .i64 og1, .int .i64 pg, .int .i64 acc1, .int .i64 cur, .int .i64 lv] rfl).set 10 (.int .i64 (df + pm)) #[.slice f l c, .bool on, .int .i64 tf, .int .i64 tg, .slice f' R.length c', .bool on1, .int .i64 of1, .int .i64 og1, .int .i64 pg, .int .i64 acc1, .int .i64 (df + pm), .int .i64 lv] rfl))
    have D7 := Lib.hid (((D4.out.other ⟨tb, 11, none⟩ (.int .i64 lv) (show g1 ≠ tb by omega)).other ⟨tb, 10, none⟩ (.int .i64 (df + pm)) (show g1 ≠ tb by omega)))
    have H7 := Lib.hid (((H4.out.other ⟨tb, 11, none⟩ (.int .i64 lv) (show g1 + 1 ≠ tb by omega)).other ⟨tb, 10, none⟩ (.int .i64 (df + pm)) (show g1 + 1 ≠ tb by omega)))
    have F7 := Lib.hid (((F4.out.other ⟨tb, 11, none⟩ (.int .i64 lv) (show g1 + 1 + 1 ≠ tb by omega)).other ⟨tb, 10, none⟩ (.int .i64 (df + pm)) (show g1 + 1 + 1 ≠ tb by omega)))
    have J7 := Lib.hid (((J4.out.other ⟨tb, 11, none⟩ (.int .i64 lv) (show bJ ≠ tb by omega)).other ⟨tb, 10, none⟩ (.int .i64 (df + pm)) (show bJ ≠ tb by omega)))
    have O7 := Lib.hid (((O4.out.otherN ⟨tb, 11, none⟩ (.int .i64 lv) (O4.out.ne_box T4.out (by decide))).otherN ⟨tb, 10, none⟩ (.int .i64 (df + pm)) (O4.out.ne_box T4.out (by decide))))
    have B7 := Lib.hid ((Below.setCell (Below.setCell B4.out (p := ⟨tb, 11, none⟩) (show w0.heap.size ≤ tb by omega) (.int .i64 lv)) (p := ⟨tb, 10, none⟩) (show w0.heap.size ≤ tb by omega) (.int .i64 (df + pm))))
    have K7 := Lib.hid (((K4.out.set 11 (.int .i64 lv)).set 10 (.int .i64 (df + pm))))
    obtain ⟨W7, hW7⟩ : ∃ W7, W7 = ((W4).setCell ⟨tb, 11, none⟩ (.int .i64 lv)).setCell ⟨tb, 10, none⟩ (.int .i64 (df + pm)) := ⟨_, rfl⟩
    have hs7 : m2 ≤ W7.heap.size := by rw [hW7]; first | (simp [World.setCell]; omega) | (simp [World.setCell, World.setRow]; omega) | exact hs4
    rw [← hW7] at T7 D7 H7 F7 J7 O7 B7 K7 ⊢
    clear hW7 T4 D4 H4 F4 J4 O4 B4 K4 hs4
    have Dc2 := D7.out.get 2 (.bool dr) rfl
    have Dc3 := D7.out.get 3 (.bool dw) rfl
    have Dc4 := D7.out.get 4 (.bool dx) rfl
    have Dc5 := D7.out.get 5 (.bool da) rfl
    have Dc6 := D7.out.get 6 (.bool dn) rfl
    have Dc7 := D7.out.get 7 (.int .i64 ds) rfl
    go_wp2_with fail
    refine (HLD.out (W7.heap.size) _ (bel_alloc B7.out (.cells #[.bool dr, .bool dw, .bool dx, .bool da, .bool dn, .int .i64 ds] 38)) (by first | omega | (simp; done) | (simp; omega)) (O7.out.alloc (.cells #[.bool dr, .bool dw, .bool dx, .bool da, .bool dn, .int .i64 ds] 38)) (T7.out.alloc (.cells #[.bool dr, .bool dw, .bool dx, .bool da, .bool dn, .int .i64 ds] 38)) (BoxAt.newAt (W7) #[.bool dr, .bool dw, .bool dx, .bool da, .bool dn, .int .i64 ds] 38 (W7.heap.size) (by first | omega | (simp; done) | (simp; omega))) (by omega)).mono ?_
    rintro e w8 ⟨f8, c8, rfl, qT8, qO8, qW8⟩
    obtain ⟨g8, hg8⟩ : ∃ g8, g8 = W7.heap.size := ⟨_, rfl⟩
    have hz8 := qW8.size
    have T8 := Lib.hid (show BoxAt w8 (tb) #[.slice f l c, .bool on, .int .i64 tf, .int .i64 tg, .slice f8 (R ++ Q).length c8, .bool on1, .int .i64 of1, .int .i64 og1, .int .i64 pg, .int .i64 acc1, .int .i64 (df + pm), .int .i64 lv] 58 from qT8)
    have D8 := Lib.hid ((qW8.box (D7.out.alloc (.cells #[.bool dr, .bool dw, .bool dx, .bool da, .bool dn, .int .i64 ds] 38)) (by decide) (show g1 ≠ tb by omega)))
    have H8 := Lib.hid ((qW8.box (H7.out.alloc (.cells #[.bool dr, .bool dw, .bool dx, .bool da, .bool dn, .int .i64 ds] 38)) (by decide) (show g1 + 1 ≠ tb by omega)))
    have F8 := Lib.hid ((qW8.box (F7.out.alloc (.cells #[.bool dr, .bool dw, .bool dx, .bool da, .bool dn, .int .i64 ds] 38)) (by decide) (show g1 + 1 + 1 ≠ tb by omega)))
    have J8 := Lib.hid ((qW8.box (J7.out.alloc (.cells #[.bool dr, .bool dw, .bool dx, .bool da, .bool dn, .int .i64 ds] 38)) (by decide) (show bJ ≠ tb by omega)))
    have S448 := Lib.hid ((qW8.box (BoxAt.newAt (W7) #[.bool dr, .bool dw, .bool dx, .bool da, .bool dn, .int .i64 ds] 38 (W7.heap.size) (by first | omega | (simp; done) | (simp; omega))) (by decide) (show W7.heap.size ≠ tb by omega)))
    have O8 := Lib.hid (show OwnI w8 (B) (.slice f8 (R ++ Q).length c8) (R ++ Q) from qO8)
    have B8 := Lib.hid ((qW8.under (bel_alloc B7.out (.cells #[.bool dr, .bool dw, .bool dx, .bool da, .bool dn, .int .i64 ds] 38)) (by first | omega | (simp; done) | (simp; omega)) (show w0.heap.size ≤ tb by omega) (show w0.heap.size ≤ B by omega)))
    have K8 := Lib.hid (((K7.out.alloc (.cells #[.bool dr, .bool dw, .bool dx, .bool da, .bool dn, .int .i64 ds] 38)).trans qW8))
    simp at hz8
    have hs8 : g8 + 1 ≤ w8.heap.size := by omega
    have hb'8 : m2 ≤ g8 := by omega
    rw [← hg8] at S448
    try rw [← hg8]
    clear hg8
    clear Dc2 Dc3 Dc4 Dc5 Dc6 Dc7
    clear T7 D7 H7 F7 J7 O7 B7 K7 hs7 qT8 qO8 qW8 hz8
    go_wp2_with (first | (refine wpList_storeB rfl 40 _ _ rfl (g1 + 1) #[.int .i64 hf, .int .i64 hm, .bool hr, .bool hw, .bool hx, .bool ha, .bool hn, .int .i64 hs, .int .i64 hl] _ 40 rfl rfl (by kernel_rfl) (by rfl) (by simp [Value.oneCell']) H8.out ?_) | (refine wpList_storeB rfl 42 _ _ rfl (g1 + 1 + 1) #[.int .i64 fk, .int .i64 fs, .int .i64 fl, .bool fw, .int .i64 fp] _ 42 rfl rfl (by kernel_rfl) (by rfl) (by simp [Value.oneCell']) (F8.out.row (cs' := #[.int .i64 hf, .int .i64 hm, .bool hr, .bool hw, .bool hx, .bool ha, .bool hn, .int .i64 hs, .int .i64 hl]) (show g1 + 1 + 1 ≠ g1 + 1 by omega)) ?_))
    have RH := ((H8.out.put (cs' := #[.int .i64 hf, .int .i64 hm, .bool hr, .bool hw, .bool hx, .bool ha, .bool hn, .int .i64 hs, .int .i64 hl])).row (cs' := #[.int .i64 fk, .int .i64 fs, .int .i64 fl, .bool fw, .int .i64 fp]) (show g1 + 1 ≠ g1 + 1 + 1 by omega))
    have RF := ((F8.out.row (cs' := #[.int .i64 hf, .int .i64 hm, .bool hr, .bool hw, .bool hx, .bool ha, .bool hn, .int .i64 hs, .int .i64 hl]) (show g1 + 1 + 1 ≠ g1 + 1 by omega)).put (cs' := #[.int .i64 fk, .int .i64 fs, .int .i64 fl, .bool fw, .int .i64 fp]))
    refine bodyPost_ret (v := .tuple #[.agg #[.int .i64 hf, .int .i64 hm, .bool hr, .bool hw, .bool hx, .bool ha, .bool hn, .int .i64 hs, .int .i64 hl], .agg #[.int .i64 fk, .int .i64 fs, .int .i64 fl, .bool fw, .int .i64 fp]]) (by simp [results, Tryz.results38, go_sem, RH.get 0 (.int .i64 hf) rfl, RH.get 1 (.int .i64 hm) rfl, RH.get 2 (.bool hr) rfl, RH.get 3 (.bool hw) rfl, RH.get 4 (.bool hx) rfl, RH.get 5 (.bool ha) rfl, RH.get 6 (.bool hn) rfl, RH.get 7 (.int .i64 hs) rfl, RH.get 8 (.int .i64 hl) rfl, RF.get 0 (.int .i64 fk) rfl, RF.get 1 (.int .i64 fs) rfl, RF.get 2 (.int .i64 fl) rfl, RF.get 3 (.bool fw) rfl, RF.get 4 (.int .i64 fp) rfl]) rfl ?_
    exact ⟨f8, c8, (df + pm), lv, rfl, ((T8.out.row (cs' := #[.int .i64 hf, .int .i64 hm, .bool hr, .bool hw, .bool hx, .bool ha, .bool hn, .int .i64 hs, .int .i64 hl]) (show tb ≠ g1 + 1 by omega)).row (cs' := #[.int .i64 fk, .int .i64 fs, .int .i64 fl, .bool fw, .int .i64 fp]) (show tb ≠ g1 + 1 + 1 by omega)), ((O8.out.rowN (cs := #[.int .i64 hf, .int .i64 hm, .bool hr, .bool hw, .bool hx, .bool ha, .bool hn, .int .i64 hs, .int .i64 hl]) (O8.out.ne_box H8.out (by decide))).rowN (cs := #[.int .i64 fk, .int .i64 fs, .int .i64 fl, .bool fw, .int .i64 fp]) (O8.out.ne_box F8.out (by decide))), ((K8.out.row (g1 + 1) #[.int .i64 hf, .int .i64 hm, .bool hr, .bool hw, .bool hx, .bool ha, .bool hn, .int .i64 hs, .int .i64 hl] (show w.heap.size ≤ g1 + 1 by omega)).row (g1 + 1 + 1) #[.int .i64 fk, .int .i64 fs, .int .i64 fl, .bool fw, .int .i64 fp] (show w.heap.size ≤ g1 + 1 + 1 by omega))⟩
  · rw [if_neg hk0]
    have df' : (gk != 0) = true := by simp [hk0]
    clear hk0 HLD
    go_enter Tryz.func38, Tryz.ntmps38
    go_upto_region 1 with fail
    have T1 := Lib.hid ((((T0.out.alloc (.cells #[.int .i64 dk, .int .i64 df, .bool dr, .bool dw, .bool dx, .bool da, .bool dn, .int .i64 ds, .int .i64 d0'] 70)).alloc (.cells z9 40)).alloc (.cells z5 42)))
    have D1 := Lib.hid ((((BoxAt.newAt (w) #[.int .i64 dk, .int .i64 df, .bool dr, .bool dw, .bool dx, .bool da, .bool dn, .int .i64 ds, .int .i64 d0'] 70 (w.heap.size) (by first | omega | (simp; done) | (simp; omega))).alloc (.cells z9 40)).alloc (.cells z5 42)))
    have H1 := Lib.hid (((BoxAt.newAt ((w).alloc (.cells #[.int .i64 dk, .int .i64 df, .bool dr, .bool dw, .bool dx, .bool da, .bool dn, .int .i64 ds, .int .i64 d0'] 70)) z9 40 (w.heap.size + 1) (by first | omega | (simp; done) | (simp; omega))).alloc (.cells z5 42)))
    have F1 := Lib.hid ((BoxAt.newAt (((w).alloc (.cells #[.int .i64 dk, .int .i64 df, .bool dr, .bool dw, .bool dx, .bool da, .bool dn, .int .i64 ds, .int .i64 d0'] 70)).alloc (.cells z9 40)) z5 42 (w.heap.size + 1 + 1) (by first | omega | (simp; done) | (simp; omega))))
    have O1 := Lib.hid ((((O0.out.alloc (.cells #[.int .i64 dk, .int .i64 df, .bool dr, .bool dw, .bool dx, .bool da, .bool dn, .int .i64 ds, .int .i64 d0'] 70)).alloc (.cells z9 40)).alloc (.cells z5 42)))
    have B1 := Lib.hid ((bel_alloc (bel_alloc (bel_alloc HB0.out (.cells #[.int .i64 dk, .int .i64 df, .bool dr, .bool dw, .bool dx, .bool da, .bool dn, .int .i64 ds, .int .i64 d0'] 70)) (.cells z9 40)) (.cells z5 42)))
    have K1 := Lib.hid ((((K0.out.alloc (.cells #[.int .i64 dk, .int .i64 df, .bool dr, .bool dw, .bool dx, .bool da, .bool dn, .int .i64 ds, .int .i64 d0'] 70)).alloc (.cells z9 40)).alloc (.cells z5 42)))
    obtain ⟨g1, hg1⟩ : ∃ g1, g1 = w.heap.size := ⟨_, rfl⟩
    obtain ⟨W1, hW1⟩ : ∃ W1, W1 = (((w).alloc (.cells #[.int .i64 dk, .int .i64 df, .bool dr, .bool dw, .bool dx, .bool da, .bool dn, .int .i64 ds, .int .i64 d0'] 70)).alloc (.cells z9 40)).alloc (.cells z5 42) := ⟨_, rfl⟩
    have hs1 : g1 + 1 + 1 + 1 ≤ W1.heap.size := by rw [hW1, hg1]; simp
    rw [← hW1] at T1 D1 H1 F1 O1 B1 K1 ⊢
    have hb1 : w.heap.size ≤ g1 := by omega
    rw [← hg1] at D1 H1 F1 ⊢
    clear hg1
    clear hW1 T0 O0 HB0 K0
    have hcs : g1 + 1 + 1 + 1 ≤ W1.heap.size := by omega
    refine wp_region_table (X := Unit) () (I0 := fun w' => Below W1.heap.size W1 w') (I1 := fun xJ w' => Below W1.heap.size W1 w') (lo := W1.heap.size) (c := 14) (U := [⟨(some 9), .con (.pointer (some ⟨g1, 2, none⟩))⟩, ⟨(some 10), .ld (.agg #[.bool dr, .bool dw, .bool dx, .bool da, .bool dn, .int .i64 ds])⟩, ⟨(some 11), .con (.pointer (some ⟨tb, 0, none⟩))⟩, ⟨(some 12), .con (.pointer (some ⟨tb, 0, none⟩))⟩, ⟨(some 13), .con (.pointer (some ⟨tb, 9, none⟩))⟩, ⟨(some 14), .ld (.int .i64 acc1)⟩, ⟨(some 15), .con (.pointer (some ⟨tb, 0, none⟩))⟩, ⟨(some 16), .con (.pointer (some ⟨tb, 0, none⟩))⟩, ⟨(some 17), .con (.pointer (some ⟨tb, 11, none⟩))⟩, ⟨(some 18), .ld (.int .i64 lv)⟩, ⟨(some 19), .con (.pointer (some ⟨tb, 0, none⟩))⟩, ⟨(some 20), .con (.pointer (some ⟨tb, 0, none⟩))⟩, ⟨(some 21), .con (.pointer (some ⟨tb, 8, none⟩))⟩, ⟨(some 22), .ld (.int .i64 pg)⟩, ⟨(some 23), .cal fun xJ => .tuple #[.agg #[.int .i64 gk, .int .i64 gs, .int .i64 gl, .bool gw, .int .i64 gp], .int .i64 0]⟩, ⟨(some 8), .res fun xJ => .tuple #[.agg #[.int .i64 gk, .int .i64 gs, .int .i64 gl, .bool gw, .int .i64 gp], .int .i64 0]⟩, ⟨(some 24), .res fun xJ => .agg #[.int .i64 gk, .int .i64 gs, .int .i64 gl, .bool gw, .int .i64 gp]⟩, ⟨(some 25), .res fun xJ => .int .i64 0⟩, ⟨(some 6), .new 42 #[.int .i64 0, .int .i64 0, .int .i64 0, .bool false, .int .i64 0]⟩, ⟨none, .sto 18 fun xJ => #[.int .i64 gk, .int .i64 gs, .int .i64 gl, .bool gw, .int .i64 gp]⟩, ⟨(some 7), .res fun xJ => .int .i64 0⟩])
      (V := fun xJ => .tuple #[.agg #[.int .i64 gk, .int .i64 gs, .int .i64 gl, .bool gw, .int .i64 gp], .int .i64 0]) (f := 48) (args := #[.agg #[.bool dr, .bool dw, .bool dx, .bool da, .bool dn, .int .i64 ds], .int .i64 acc1, .int .i64 1, .int .i64 lv, .int .i64 pg]) (dc := some 23) (by kernel_rfl) (fun _ _ => rfl) (by kernel_rfl) (by kernel_rfl) rfl
      (AllObl.all ⟨fun _ _ _ => by kernel_rfl, fun _ _ _ hJ => run_ldN 38 (.tmp 9) g1 2 (by kernel_rfl) (by kernel_rfl) Tryz.underlying38 rfl (by kernel_rfl) ((D1.out.below hJ).sub 2 _ rfl), fun _ _ _ => by kernel_rfl, fun _ _ _ => by kernel_rfl, fun _ _ _ => by kernel_rfl, fun _ _ _ hJ => run_ld1 3 (.tmp 13) tb 9 (by kernel_rfl) (by kernel_rfl) Tryz.underlying3 rfl ((T1.out.below hJ).get 9 (.int .i64 acc1) rfl), fun _ _ _ => by kernel_rfl, fun _ _ _ => by kernel_rfl, fun _ _ _ => by kernel_rfl, fun _ _ _ hJ => run_ld1 3 (.tmp 17) tb 11 (by kernel_rfl) (by kernel_rfl) Tryz.underlying3 rfl ((T1.out.below hJ).get 11 (.int .i64 lv) rfl), fun _ _ _ => by kernel_rfl, fun _ _ _ => by kernel_rfl, fun _ _ _ => by kernel_rfl, fun _ _ _ hJ => run_ld1 3 (.tmp 21) tb 8 (by kernel_rfl) (by kernel_rfl) Tryz.underlying3 rfl ((T1.out.below hJ).get 8 (.int .i64 pg) rfl), trivial, fun _ _ _ => by kernel_rfl, fun _ _ _ => by kernel_rfl, fun _ _ _ => by kernel_rfl, fun _ _ _ => by kernel_rfl, ⟨_, _, _, rfl, fun _ _ _ hJ => run_stoB 42 (.tmp 6) (.tmp 24) _ (by kernel_rfl) (by kernel_rfl) (by kernel_rfl) (by kernel_rfl) (by rfl) (by simp [Value.oneCell']) hJ⟩, fun _ _ _ => by kernel_rfl, trivial⟩)
      (fun _ oJ hJ => bel_alloc hJ oJ) (fun xJ _ oJ hJ => bel_alloc hJ oJ) (fun xJ _ bJ csJ dsJ tJ iJ zJ dJ hiJ hbJ hxJ hJ => Below.rowB (g := bJ) hJ (cs := dsJ) hbJ) (fun _ hJ => hJ.size) (fun xJ _ hJ => hJ.size) (fun _ _ _ _ => by kernel_rfl)
      (fun wJ hJ => (HG.out _).mono (by rintro _ w2J ⟨rfl, hb⟩; exact ⟨(), rfl, bel_trans hJ hb, fun bJ csJ tJ iJ zJ dJ hiJ hlJ hxJ => hxJ.below hb⟩)) (Below.drew (Below.refl _ _)) ?_
    rintro _ βJ w2c q2_0 hNW
    obtain ⟨hbJ2, QJ2⟩ := hNW.full 18 19 (by kernel_rfl) rfl rfl
    clear hNW
    simp only [putU, if_true, Act.put, Knd.val, List.setIfInBounds_toArray, List.set_cons_zero, List.set_cons_succ]
    generalize βJ 18 = bJ at *
    clear βJ
    have hz2 := q2_0.size
    have T2 := Lib.hid (T1.out.below q2_0)
    have D2 := Lib.hid (D1.out.below q2_0)
    have H2 := Lib.hid (H1.out.below q2_0)
    have F2 := Lib.hid (F1.out.below q2_0)
    have O2 := Lib.hid (O1.out.below q2_0)
    have B2 := Lib.hid (bel_trans B1.out q2_0)
    have K2 := Lib.hid (K1.out.step q2_0)
    have Jn2 := Lib.hid (QJ2)
    obtain ⟨m2, hm2⟩ : ∃ m2, m2 = w2c.heap.size := ⟨_, rfl⟩
    have hbm2 : g1 + 1 + 1 + 1 ≤ m2 := by omega
    have hlJ2 : bJ + 1 ≤ m2 := by rw [hm2]; exact QJ2.lt
    have hgJ2 : g1 + 1 + 1 + 1 ≤ bJ := by omega
    have hs2 : m2 ≤ w2c.heap.size := by omega
    clear hm2 hz2 hcs q2_0 QJ2 hbJ2 T1 D1 H1 F1 O1 B1 K1 hs1
    have Jc0 := Jn2.out.get 0 (.int .i64 gk) rfl
    have Jc1 := Jn2.out.get 1 (.int .i64 gs) rfl
    have Jc2 := Jn2.out.get 2 (.int .i64 gl) rfl
    have Jc3 := Jn2.out.get 3 (.bool gw) rfl
    have Jc4 := Jn2.out.get 4 (.int .i64 gp) rfl
    go_wp2_with fail
    refine (HIF.out _ _ _ _ _ _).mono ?_
    rintro e w3 ⟨rfl, hb3⟩
    have hz3 := hb3.size
    have T3 := Lib.hid (T2.out.below hb3)
    have D3 := Lib.hid (D2.out.below hb3)
    have H3 := Lib.hid (H2.out.below hb3)
    have F3 := Lib.hid (F2.out.below hb3)
    have J3 := Lib.hid (Jn2.out.below hb3)
    have O3 := Lib.hid (O2.out.below hb3)
    have B3 := Lib.hid (bel_trans B2.out hb3)
    have K3 := Lib.hid (K2.out.step hb3)
    skip
    have hs3 : m2 ≤ w3.heap.size := by omega
    clear Jc0 Jc1 Jc2 Jc3 Jc4
    clear T2 D2 H2 F2 Jn2 O2 B2 K2 hs2 hb3 hz3
    go_upto_region 3 with fail
    refine wp_region_held_drew (S := (fun w' => BoxAt w' (bJ) #[.int .i64 gk, .int .i64 gs, .int .i64 gl, .bool gw, .int .i64 gp] 42)) (by kernel_rfl) (J3.out.drew) (fun hS => ?_)
    refine tkR 0 28 (v := .agg #[.int .i64 0, .int .i64 0, .bool false, .bool false, .bool false, .bool false, .bool false, .int .i64 0, .int .i64 0]) rfl hS (fun _ _ => by kernel_rfl) ?_
    refine tkR 1 29 (v := .agg #[.int .i64 gk, .int .i64 gs, .int .i64 gl, .bool gw, .int .i64 gp]) rfl hS (fun _ h => run_ldN 42 (.tmp 6) bJ 0 (by kernel_rfl) (by kernel_rfl) Tryz.underlying42 rfl (by kernel_rfl) ((h).sub 0 _ rfl)) ?_
    try simp only [Act.put, List.setIfInBounds_toArray, List.set_cons_zero, List.set_cons_succ]
    refine wpAnyH_ready (rs := [2]) (by kernel_rfl) (by simp) ?_
    refine AllReadyH.cons (o := ⟨none, _, _, _, _, _⟩) rfl (fun K hK => ?_) AllReadyH.nil
    refine step_storeB rfl 40 _ _ rfl _ _ _ 40 rfl rfl (by kernel_rfl) (by rfl) (by simp [Value.oneCell']) (H3.out.drew) ?_
    refine hK.out _ _ ?_ (fun hS' => ?_)
    · exact (hS.row (show bJ ≠ g1 + 1 by omega))
    clear hK K hS
    have hS := hS'
    clear hS'
    try simp only [Act.put]
    try simp only [Act.put, List.setIfInBounds_toArray, List.set_cons_zero, List.set_cons_succ]
    refine wpAnyH_ready (rs := [3]) (by kernel_rfl) (by simp) ?_
    refine AllReadyH.cons (o := ⟨none, _, _, _, _, _⟩) rfl (fun K hK => ?_) AllReadyH.nil
    refine step_storeB rfl 42 _ _ rfl _ _ _ 42 rfl rfl (by kernel_rfl) (by rfl) (by simp [Value.oneCell']) ((F3.out.drew).row (cs' := #[.int .i64 0, .int .i64 0, .bool false, .bool false, .bool false, .bool false, .bool false, .int .i64 0, .int .i64 0]) (show g1 + 1 + 1 ≠ g1 + 1 by omega)) ?_
    refine hK.out _ _ ?_ (fun hS' => ?_)
    · exact (hS.row (show bJ ≠ g1 + 1 + 1 by omega))
    clear hK K hS
    have hS := hS'
    clear hS'
    try simp only [Act.put]
    refine wpAnyH_done (by kernel_rfl) ?_ _
    try simp only [Act.put, List.setIfInBounds_toArray, List.set_cons_zero, List.set_cons_succ]
    have T4 := Lib.hid ((((T3.out.drew).row (cs' := #[.int .i64 0, .int .i64 0, .bool false, .bool false, .bool false, .bool false, .bool false, .int .i64 0, .int .i64 0]) (show tb ≠ g1 + 1 by omega)).row (cs' := #[.int .i64 gk, .int .i64 gs, .int .i64 gl, .bool gw, .int .i64 gp]) (show tb ≠ g1 + 1 + 1 by omega)))
    have D4 := Lib.hid ((((D3.out.drew).row (cs' := #[.int .i64 0, .int .i64 0, .bool false, .bool false, .bool false, .bool false, .bool false, .int .i64 0, .int .i64 0]) (show g1 ≠ g1 + 1 by omega)).row (cs' := #[.int .i64 gk, .int .i64 gs, .int .i64 gl, .bool gw, .int .i64 gp]) (show g1 ≠ g1 + 1 + 1 by omega)))
    have H4 := Lib.hid ((((H3.out.drew).put (cs' := #[.int .i64 0, .int .i64 0, .bool false, .bool false, .bool false, .bool false, .bool false, .int .i64 0, .int .i64 0])).row (cs' := #[.int .i64 gk, .int .i64 gs, .int .i64 gl, .bool gw, .int .i64 gp]) (show g1 + 1 ≠ g1 + 1 + 1 by omega)))
    have F4 := Lib.hid ((((F3.out.drew).row (cs' := #[.int .i64 0, .int .i64 0, .bool false, .bool false, .bool false, .bool false, .bool false, .int .i64 0, .int .i64 0]) (show g1 + 1 + 1 ≠ g1 + 1 by omega)).put (cs' := #[.int .i64 gk, .int .i64 gs, .int .i64 gl, .bool gw, .int .i64 gp])))
    have J4 := Lib.hid ((((J3.out.drew).row (cs' := #[.int .i64 0, .int .i64 0, .bool false, .bool false, .bool false, .bool false, .bool false, .int .i64 0, .int .i64 0]) (show bJ ≠ g1 + 1 by omega)).row (cs' := #[.int .i64 gk, .int .i64 gs, .int .i64 gl, .bool gw, .int .i64 gp]) (show bJ ≠ g1 + 1 + 1 by omega)))
    have O4 := Lib.hid ((((O3.out.drew).rowN (cs := #[.int .i64 0, .int .i64 0, .bool false, .bool false, .bool false, .bool false, .bool false, .int .i64 0, .int .i64 0]) (O3.out.ne_box H3.out (by decide))).rowN (cs := #[.int .i64 gk, .int .i64 gs, .int .i64 gl, .bool gw, .int .i64 gp]) (O3.out.ne_box F3.out (by decide))))
    have B4 := Lib.hid ((Below.rowB (g := g1 + 1 + 1) (Below.rowB (g := g1 + 1) (Below.drew B3.out) (cs := #[.int .i64 0, .int .i64 0, .bool false, .bool false, .bool false, .bool false, .bool false, .int .i64 0, .int .i64 0]) (show w0.heap.size ≤ g1 + 1 by omega)) (cs := #[.int .i64 gk, .int .i64 gs, .int .i64 gl, .bool gw, .int .i64 gp]) (show w0.heap.size ≤ g1 + 1 + 1 by omega)))
    have K4 := Lib.hid ((((K3.out.drew).row (g1 + 1) #[.int .i64 0, .int .i64 0, .bool false, .bool false, .bool false, .bool false, .bool false, .int .i64 0, .int .i64 0] (show w.heap.size ≤ g1 + 1 by omega)).row (g1 + 1 + 1) #[.int .i64 gk, .int .i64 gs, .int .i64 gl, .bool gw, .int .i64 gp] (show w.heap.size ≤ g1 + 1 + 1 by omega)))
    obtain ⟨W4, hW4⟩ : ∃ W4, W4 = (((w3).drew).setRow (g1 + 1) #[.int .i64 0, .int .i64 0, .bool false, .bool false, .bool false, .bool false, .bool false, .int .i64 0, .int .i64 0]).setRow (g1 + 1 + 1) #[.int .i64 gk, .int .i64 gs, .int .i64 gl, .bool gw, .int .i64 gp] := ⟨_, rfl⟩
    have hs4 : m2 ≤ W4.heap.size := by rw [hW4]; first | exact hs3 | (simp; omega)
    rw [← hW4] at T4 D4 H4 F4 J4 O4 B4 K4 ⊢
    clear hW4 T3 D3 H3 F3 J3 O3 B3 K3 hs3
    go_wp2
    have RH := H4.out
    have RF := F4.out
    refine bodyPost_ret (v := .tuple #[.agg #[.int .i64 0, .int .i64 0, .bool false, .bool false, .bool false, .bool false, .bool false, .int .i64 0, .int .i64 0], .agg #[.int .i64 gk, .int .i64 gs, .int .i64 gl, .bool gw, .int .i64 gp]]) (by simp [results, Tryz.results38, go_sem, RH.get 0 (.int .i64 0) rfl, RH.get 1 (.int .i64 0) rfl, RH.get 2 (.bool false) rfl, RH.get 3 (.bool false) rfl, RH.get 4 (.bool false) rfl, RH.get 5 (.bool false) rfl, RH.get 6 (.bool false) rfl, RH.get 7 (.int .i64 0) rfl, RH.get 8 (.int .i64 0) rfl, RF.get 0 (.int .i64 gk) rfl, RF.get 1 (.int .i64 gs) rfl, RF.get 2 (.int .i64 gl) rfl, RF.get 3 (.bool gw) rfl, RF.get 4 (.int .i64 gp) rfl]) rfl ?_
    exact ⟨f', c', cur, lv, rfl, by simp only [List.append_nil]; exact T4.out, by simp only [List.append_nil]; exact O4.out, K4.out⟩
set_option maxRecDepth 100000 in
theorem nbegin_any (f : Option Addr) (l c : Nat) (on : Bool) (tf tg : Int) (on1 : Bool) (of1 og1 pg acc1 cur lv : Int) (rd : Value) (tb : Nat) (w : World) (hT : BoxAt w tb #[.slice f l c, .bool on, .int .i64 tf, .int .i64 tg, rd, .bool on1, .int .i64 of1, .int .i64 og1, .int .i64 pg, .int .i64 acc1, .int .i64 cur, .int .i64 lv] 58) :
    Calls Tryz.prog 18 #[.pointer (some ⟨tb, 0, none⟩)] w fun e w' => e = .returned (.bool (mayN l tf pg acc1 && numB of1 4095)) ∧ Below w.heap.size w w' := by
  have HC := Lib.hid (fun W (hT : BoxAt W tb #[.slice f l c, .bool on, .int .i64 tf, .int .i64 tg, rd, .bool on1, .int .i64 of1, .int .i64 og1, .int .i64 pg, .int .i64 acc1, .int .i64 cur, .int .i64 lv] 58) => ncarry_any f l c tf pg acc1 tb W hT rfl rfl)
  have HP := Lib.hid (fun W => npage_any of1 W)
  have T0 := Lib.hid hT
  have B0 := Lib.hid (Below.refl w.heap.size w)
  have htl : tb + 1 ≤ w.heap.size := hT.lt
  clear hT
  generalize numB of1 4095 = b at *
  cases hA : mayN l tf pg acc1
  · rw [hA] at HC
    clear hA
    go_enter Tryz.func18, Tryz.ntmps18
    go_upto_region 1 with fail
    refine wp_region_held_drew (S := (fun w' => BoxAt w' (tb) #[.slice f l c, .bool on, .int .i64 tf, .int .i64 tg, rd, .bool on1, .int .i64 of1, .int .i64 og1, .int .i64 pg, .int .i64 acc1, .int .i64 cur, .int .i64 lv] 58)) (by kernel_rfl) (T0.out.drew) (fun hS => ?_)
    refine tkR 0 3 (v := .pointer (some ⟨tb, 0, none⟩)) rfl hS (fun _ _ => by kernel_rfl) ?_
    refine tkR 1 4 (v := .pointer (some ⟨tb, 0, none⟩)) rfl hS (fun _ _ => by kernel_rfl) ?_
    refine tkR 2 5 (v := .pointer (some ⟨tb, 0, none⟩)) rfl hS (fun _ _ => by kernel_rfl) ?_
    refine tkR 3 6 (v := .pointer (some ⟨tb, 0, none⟩)) rfl hS (fun _ _ => by kernel_rfl) ?_
    refine tkR 4 7 (v := .pointer (some ⟨tb, 0, none⟩)) rfl hS (fun _ _ => by kernel_rfl) ?_
    refine tkR 5 8 (v := .pointer (some ⟨tb, 8, none⟩)) rfl hS (fun _ _ => by kernel_rfl) ?_
    refine tkR 6 9 (v := .int .i64 pg) rfl hS (fun _ h => run_ld1 3 (.tmp 8) tb 8 (by kernel_rfl) (by kernel_rfl) Tryz.underlying3 rfl ((h).get 8 (.int .i64 pg) rfl)) ?_
    refine tkR 7 10 (v := .pointer (some ⟨tb, 0, none⟩)) rfl hS (fun _ _ => by kernel_rfl) ?_
    refine tkR 8 11 (v := .pointer (some ⟨tb, 0, none⟩)) rfl hS (fun _ _ => by kernel_rfl) ?_
    refine tkR 9 12 (v := .pointer (some ⟨tb, 9, none⟩)) rfl hS (fun _ _ => by kernel_rfl) ?_
    refine tkR 10 13 (v := .int .i64 acc1) rfl hS (fun _ h => run_ld1 3 (.tmp 12) tb 9 (by kernel_rfl) (by kernel_rfl) Tryz.underlying3 rfl ((h).get 9 (.int .i64 acc1) rfl)) ?_
    try simp only [Act.put, List.setIfInBounds_toArray, List.set_cons_zero, List.set_cons_succ]
    refine wpAnyH_ready (rs := [11]) (by kernel_rfl) (by simp) ?_
    refine AllReadyH.cons (o := ⟨some 14, _, _, _, _, _⟩) rfl (fun K hK => ?_) AllReadyH.nil
    go_simp
    refine (HC.out _ (T0.out.drew)).mono ?_
    rintro e w1 ⟨rfl, hb1⟩
    have hz1 := hb1.size
    try simp at hz1
    refine hK.out _ _ ?_ (fun hS' => ?_)
    · exact (hS.below hb1)
    clear hK K hS
    have hS := hS'
    clear hS'
    try simp only [Act.put, List.setIfInBounds_toArray, List.set_cons_zero, List.set_cons_succ]
    refine tkR 12 15 (v := .bool false) rfl hS (fun _ _ => by kernel_rfl) ?_
    refine wpAnyH_take (i := 13) (oi := ⟨some 16, _, _, _, _, _⟩) (v := undef) rfl (by kernel_rfl) (by kernel_rfl) (by kernel_rfl) (fun _ _ _ h => h) (Or.inr ⟨by rfl, rfl⟩) hS ?_
    simp only [Act.put, List.setIfInBounds_toArray, List.set_cons_zero, List.set_cons_succ]
    refine wpAnyH_take (i := 14) (oi := ⟨some 17, _, _, _, _, _⟩) (v := undef) rfl (by kernel_rfl) (by kernel_rfl) (by kernel_rfl) (fun _ _ _ h => h) (Or.inr ⟨by rfl, rfl⟩) hS ?_
    simp only [Act.put, List.setIfInBounds_toArray, List.set_cons_zero, List.set_cons_succ]
    refine wpAnyH_take (i := 15) (oi := ⟨some 18, _, _, _, _, _⟩) (v := undef) rfl (by kernel_rfl) (by kernel_rfl) (by kernel_rfl) (fun _ _ _ h => h) (Or.inr ⟨by rfl, rfl⟩) hS ?_
    simp only [Act.put, List.setIfInBounds_toArray, List.set_cons_zero, List.set_cons_succ]
    refine wpAnyH_take (i := 16) (oi := ⟨some 19, _, _, _, _, _⟩) (v := undef) rfl (by kernel_rfl) (by kernel_rfl) (by kernel_rfl) (fun _ _ _ h => h) (Or.inr ⟨by rfl, rfl⟩) hS ?_
    simp only [Act.put, List.setIfInBounds_toArray, List.set_cons_zero, List.set_cons_succ]
    refine wpAnyH_take (i := 17) (oi := ⟨some 20, _, _, _, _, _⟩) (v := undef) rfl (by kernel_rfl) (by kernel_rfl) (by kernel_rfl) (fun _ _ _ h => h) (Or.inr ⟨by rfl, rfl⟩) hS ?_
    simp only [Act.put, List.setIfInBounds_toArray, List.set_cons_zero, List.set_cons_succ]
    refine wpAnyH_take (i := 18) (oi := ⟨some 21, _, _, _, _, _⟩) (v := undef) rfl (by kernel_rfl) (by kernel_rfl) (by kernel_rfl) (fun _ _ _ h => h) (Or.inr ⟨by rfl, rfl⟩) hS ?_
    simp only [Act.put, List.setIfInBounds_toArray, List.set_cons_zero, List.set_cons_succ]
    try simp only [Act.put, List.setIfInBounds_toArray, List.set_cons_zero, List.set_cons_succ]
    refine wpAnyH_take (i := 19) (oi := ⟨some 22, _, _, _, _, _⟩) (v := ?_) rfl (by kernel_rfl) (by kernel_rfl) (by kernel_rfl) (fun _ _ _ h => h) (Or.inl ⟨by rfl, ?_⟩) hS ?_
    rotate_left
    · (intro w' hSw; clear hSw; go_simp; try with_reducible rfl)
    simp only [Act.put, List.setIfInBounds_toArray, List.set_cons_zero, List.set_cons_succ]
    refine tkR 20 2 (v := .bool false) rfl hS (fun _ _ => by kernel_rfl) ?_
    refine wpAnyH_done (by kernel_rfl) ?_ _
    try simp only [Act.put, List.setIfInBounds_toArray, List.set_cons_zero, List.set_cons_succ]
    have T2 := Lib.hid (((T0.out.drew).below hb1))
    have B2 := Lib.hid ((bel_trans (Below.drew B0.out) hb1))
    obtain ⟨W2, hW2⟩ : ∃ W2, W2 = w1 := ⟨_, rfl⟩
    rw [← hW2] at T2 B2 ⊢
    clear hW2 T0 B0
    go_wp2
    go_ret
    exact ⟨rfl, B2.out⟩
  · rw [hA] at HC
    clear hA
    go_enter Tryz.func18, Tryz.ntmps18
    go_upto_region 1 with fail
    refine wp_region_held_drew (S := (fun w' => BoxAt w' (tb) #[.slice f l c, .bool on, .int .i64 tf, .int .i64 tg, rd, .bool on1, .int .i64 of1, .int .i64 og1, .int .i64 pg, .int .i64 acc1, .int .i64 cur, .int .i64 lv] 58)) (by kernel_rfl) (T0.out.drew) (fun hS => ?_)
    refine tkR 0 3 (v := .pointer (some ⟨tb, 0, none⟩)) rfl hS (fun _ _ => by kernel_rfl) ?_
    refine tkR 1 4 (v := .pointer (some ⟨tb, 0, none⟩)) rfl hS (fun _ _ => by kernel_rfl) ?_
    refine tkR 2 5 (v := .pointer (some ⟨tb, 0, none⟩)) rfl hS (fun _ _ => by kernel_rfl) ?_
    refine tkR 3 6 (v := .pointer (some ⟨tb, 0, none⟩)) rfl hS (fun _ _ => by kernel_rfl) ?_
    refine tkR 4 7 (v := .pointer (some ⟨tb, 0, none⟩)) rfl hS (fun _ _ => by kernel_rfl) ?_
    refine tkR 5 8 (v := .pointer (some ⟨tb, 8, none⟩)) rfl hS (fun _ _ => by kernel_rfl) ?_
    refine tkR 6 9 (v := .int .i64 pg) rfl hS (fun _ h => run_ld1 3 (.tmp 8) tb 8 (by kernel_rfl) (by kernel_rfl) Tryz.underlying3 rfl ((h).get 8 (.int .i64 pg) rfl)) ?_
    refine tkR 7 10 (v := .pointer (some ⟨tb, 0, none⟩)) rfl hS (fun _ _ => by kernel_rfl) ?_
    refine tkR 8 11 (v := .pointer (some ⟨tb, 0, none⟩)) rfl hS (fun _ _ => by kernel_rfl) ?_
    refine tkR 9 12 (v := .pointer (some ⟨tb, 9, none⟩)) rfl hS (fun _ _ => by kernel_rfl) ?_
    refine tkR 10 13 (v := .int .i64 acc1) rfl hS (fun _ h => run_ld1 3 (.tmp 12) tb 9 (by kernel_rfl) (by kernel_rfl) Tryz.underlying3 rfl ((h).get 9 (.int .i64 acc1) rfl)) ?_
    try simp only [Act.put, List.setIfInBounds_toArray, List.set_cons_zero, List.set_cons_succ]
    refine wpAnyH_ready (rs := [11]) (by kernel_rfl) (by simp) ?_
    refine AllReadyH.cons (o := ⟨some 14, _, _, _, _, _⟩) rfl (fun K hK => ?_) AllReadyH.nil
    go_simp
    refine (HC.out _ (T0.out.drew)).mono ?_
    rintro e w1 ⟨rfl, hb1⟩
    have hz1 := hb1.size
    try simp at hz1
    refine hK.out _ _ ?_ (fun hS' => ?_)
    · exact (hS.below hb1)
    clear hK K hS
    have hS := hS'
    clear hS'
    try simp only [Act.put, List.setIfInBounds_toArray, List.set_cons_zero, List.set_cons_succ]
    refine tkR 12 15 (v := .bool true) rfl hS (fun _ _ => by kernel_rfl) ?_
    try simp only [Act.put, List.setIfInBounds_toArray, List.set_cons_zero, List.set_cons_succ]
    refine wpAnyH_take (i := 13) (oi := ⟨some 16, _, _, _, _, _⟩) (v := ?_) rfl (by kernel_rfl) (by kernel_rfl) (by kernel_rfl) (fun _ _ _ h => h) (Or.inl ⟨by rfl, ?_⟩) hS ?_
    rotate_left
    · (intro w' hSw; clear hSw; go_simp; try with_reducible rfl)
    simp only [Act.put, List.setIfInBounds_toArray, List.set_cons_zero, List.set_cons_succ]
    try simp only [Act.put, List.setIfInBounds_toArray, List.set_cons_zero, List.set_cons_succ]
    refine wpAnyH_take (i := 14) (oi := ⟨some 17, _, _, _, _, _⟩) (v := ?_) rfl (by kernel_rfl) (by kernel_rfl) (by kernel_rfl) (fun _ _ _ h => h) (Or.inl ⟨by rfl, ?_⟩) hS ?_
    rotate_left
    · (intro w' hSw; clear hSw; go_simp; try with_reducible rfl)
    simp only [Act.put, List.setIfInBounds_toArray, List.set_cons_zero, List.set_cons_succ]
    try simp only [Act.put, List.setIfInBounds_toArray, List.set_cons_zero, List.set_cons_succ]
    refine wpAnyH_take (i := 15) (oi := ⟨some 18, _, _, _, _, _⟩) (v := ?_) rfl (by kernel_rfl) (by kernel_rfl) (by kernel_rfl) (fun _ _ _ h => h) (Or.inl ⟨by rfl, ?_⟩) hS ?_
    rotate_left
    · (intro w' hSw; clear hSw; go_simp; try with_reducible rfl)
    simp only [Act.put, List.setIfInBounds_toArray, List.set_cons_zero, List.set_cons_succ]
    try simp only [Act.put, List.setIfInBounds_toArray, List.set_cons_zero, List.set_cons_succ]
    refine wpAnyH_take (i := 16) (oi := ⟨some 19, _, _, _, _, _⟩) (v := ?_) rfl (by kernel_rfl) (by kernel_rfl) (by kernel_rfl) (fun _ _ _ h => h) (Or.inl ⟨by rfl, ?_⟩) hS ?_
    rotate_left
    · (intro w' hSw; clear hSw; go_simp; try with_reducible rfl)
    simp only [Act.put, List.setIfInBounds_toArray, List.set_cons_zero, List.set_cons_succ]
    try simp only [Act.put, List.setIfInBounds_toArray, List.set_cons_zero, List.set_cons_succ]
    refine wpAnyH_take (i := 17) (oi := ⟨some 20, _, _, _, _, _⟩) (v := ?_) rfl (by kernel_rfl) (by kernel_rfl) (by kernel_rfl) (fun _ _ _ h => h) (Or.inl ⟨by rfl, ?_⟩) hS ?_
    rotate_left
    · (intro w' hSw; have c0_6 := (hSw).get 6 (.int .i64 of1) rfl; clear hSw; go_simp; try with_reducible rfl)
    simp only [Act.put, List.setIfInBounds_toArray, List.set_cons_zero, List.set_cons_succ]
    try simp only [Act.put, List.setIfInBounds_toArray, List.set_cons_zero, List.set_cons_succ]
    refine wpAnyH_ready (rs := [18]) (by kernel_rfl) (by simp) ?_
    refine AllReadyH.cons (o := ⟨some 21, _, _, _, _, _⟩) rfl (fun K hK => ?_) AllReadyH.nil
    go_simp
    refine (HP.out _).mono ?_
    rintro e w2 ⟨rfl, hb2⟩
    have hz2 := hb2.size
    try simp at hz2
    refine hK.out _ _ ?_ (fun hS' => ?_)
    · exact (hS.below hb2)
    clear hK K hS
    have hS := hS'
    clear hS'
    try simp only [Act.put, List.setIfInBounds_toArray, List.set_cons_zero, List.set_cons_succ]
    try simp only [Act.put, List.setIfInBounds_toArray, List.set_cons_zero, List.set_cons_succ]
    refine wpAnyH_take (i := 19) (oi := ⟨some 22, _, _, _, _, _⟩) (v := ?_) rfl (by kernel_rfl) (by kernel_rfl) (by kernel_rfl) (fun _ _ _ h => h) (Or.inl ⟨by rfl, ?_⟩) hS ?_
    rotate_left
    · (intro w' hSw; clear hSw; go_simp; try with_reducible rfl)
    simp only [Act.put, List.setIfInBounds_toArray, List.set_cons_zero, List.set_cons_succ]
    refine tkR 20 2 (v := .bool b) rfl hS (fun _ _ => by kernel_rfl) ?_
    refine wpAnyH_done (by kernel_rfl) ?_ _
    try simp only [Act.put, List.setIfInBounds_toArray, List.set_cons_zero, List.set_cons_succ]
    have T3 := Lib.hid ((((T0.out.drew).below hb1).below hb2))
    have B3 := Lib.hid ((bel_trans (bel_trans (Below.drew B0.out) hb1) hb2))
    obtain ⟨W3, hW3⟩ : ∃ W3, W3 = w2 := ⟨_, rfl⟩
    rw [← hW3] at T3 B3 ⊢
    clear hW3 T0 B0
    go_wp2
    go_ret
    exact ⟨rfl, B3.out⟩
set_option maxRecDepth 100000 in
set_option maxHeartbeats 1600000 in
theorem ntripOf_any (f : Option Addr) (l c : Nat) (on : Bool) (tf tg : Int) (on1 : Bool) (of1 og1 pg acc1 : Int) (w : World) :
    Calls Tryz.prog 17 #[.agg #[.slice f l c, .bool on, .int .i64 tf, .int .i64 tg, .slice none 0 0], .agg #[.bool on1, .int .i64 of1, .int .i64 og1], .int .i64 pg, .int .i64 acc1] w fun e w' => e = .returned (.agg #[.slice f l c, .bool on, .int .i64 tf, .int .i64 tg, .slice none 0 0, .bool on1, .int .i64 of1, .int .i64 og1, .int .i64 pg, .int .i64 acc1, .int .i64 (if on1 = true then of1 else pg), .int .i64 (if on1 = true then 0 else 3)]) ∧ Below w.heap.size w w' := by
  have htw : w.heap.size ≤ w.heap.size := Nat.le_refl _
  have B0 := Lib.hid (Below.refl w.heap.size w)
  have HGO := Lib.hid (fun cur lv rd a b tb W hT => ngoTo_any f l c on tf tg on1 of1 og1 pg acc1 cur lv rd a b tb W hT)
  cases on1
  · rw [if_neg (by decide), if_neg (by decide)]
    go_enter Tryz.func17, Tryz.ntmps17
    go_upto_region 1 with fail
    have S1 := Lib.hid ((((BoxAt.newAt (w) #[.slice f l c, .bool on, .int .i64 tf, .int .i64 tg, .slice none 0 0] 56 (w.heap.size) (by first | omega | (simp; done) | (simp; omega))).alloc (.cells #[.bool false, .int .i64 of1, .int .i64 og1] 29)).alloc (.cells #[.slice none 0 0, .bool false, .int .i64 0, .int .i64 0, .slice none 0 0, .bool false, .int .i64 0, .int .i64 0, .int .i64 0, .int .i64 0, .int .i64 0, .int .i64 0] 58)))
    have U1 := Lib.hid (((BoxAt.newAt ((w).alloc (.cells #[.slice f l c, .bool on, .int .i64 tf, .int .i64 tg, .slice none 0 0] 56)) #[.bool false, .int .i64 of1, .int .i64 og1] 29 (w.heap.size + 1) (by first | omega | (simp; done) | (simp; omega))).alloc (.cells #[.slice none 0 0, .bool false, .int .i64 0, .int .i64 0, .slice none 0 0, .bool false, .int .i64 0, .int .i64 0, .int .i64 0, .int .i64 0, .int .i64 0, .int .i64 0] 58)))
    have R1 := Lib.hid ((BoxAt.newAt (((w).alloc (.cells #[.slice f l c, .bool on, .int .i64 tf, .int .i64 tg, .slice none 0 0] 56)).alloc (.cells #[.bool false, .int .i64 of1, .int .i64 og1] 29)) #[.slice none 0 0, .bool false, .int .i64 0, .int .i64 0, .slice none 0 0, .bool false, .int .i64 0, .int .i64 0, .int .i64 0, .int .i64 0, .int .i64 0, .int .i64 0] 58 (w.heap.size + 1 + 1) (by first | omega | (simp; done) | (simp; omega))))
    have B1 := Lib.hid ((bel_alloc (bel_alloc (bel_alloc B0.out (.cells #[.slice f l c, .bool on, .int .i64 tf, .int .i64 tg, .slice none 0 0] 56)) (.cells #[.bool false, .int .i64 of1, .int .i64 og1] 29)) (.cells #[.slice none 0 0, .bool false, .int .i64 0, .int .i64 0, .slice none 0 0, .bool false, .int .i64 0, .int .i64 0, .int .i64 0, .int .i64 0, .int .i64 0, .int .i64 0] 58)))
    obtain ⟨g1, hg1⟩ : ∃ g1, g1 = w.heap.size := ⟨_, rfl⟩
    obtain ⟨W1, hW1⟩ : ∃ W1, W1 = (((w).alloc (.cells #[.slice f l c, .bool on, .int .i64 tf, .int .i64 tg, .slice none 0 0] 56)).alloc (.cells #[.bool false, .int .i64 of1, .int .i64 og1] 29)).alloc (.cells #[.slice none 0 0, .bool false, .int .i64 0, .int .i64 0, .slice none 0 0, .bool false, .int .i64 0, .int .i64 0, .int .i64 0, .int .i64 0, .int .i64 0, .int .i64 0] 58) := ⟨_, rfl⟩
    have hs1 : g1 + 1 + 1 + 1 ≤ W1.heap.size := by rw [hW1, hg1]; simp
    rw [← hW1] at S1 U1 R1 B1 ⊢
    have hb1 : w.heap.size ≤ g1 := by omega
    rw [← hg1] at S1 U1 R1 ⊢
    clear hg1
    clear hW1 B0
    have Sc0 := S1.out.get 0 (.slice f l c) rfl
    have Sc1 := S1.out.get 1 (.bool on) rfl
    have Sc2 := S1.out.get 2 (.int .i64 tf) rfl
    have Sc3 := S1.out.get 3 (.int .i64 tg) rfl
    have Sc4 := S1.out.get 4 (.slice none 0 0) rfl
    have Uc0 := U1.out.get 0 (.bool false) rfl
    have Uc1 := U1.out.get 1 (.int .i64 of1) rfl
    have Uc2 := U1.out.get 2 (.int .i64 og1) rfl
    go_upto_region 2 with fail
    clear Sc0 Sc1 Sc2 Sc3 Sc4 Uc0 Uc1 Uc2
    have S2 := Lib.hid ((S1.out.alloc (.cells #[.slice f l c, .bool on, .int .i64 tf, .int .i64 tg, .slice none 0 0, .bool false, .int .i64 of1, .int .i64 og1, .int .i64 pg, .int .i64 acc1, .int .i64 pg, .int .i64 3] 58)))
    have U2 := Lib.hid ((U1.out.alloc (.cells #[.slice f l c, .bool on, .int .i64 tf, .int .i64 tg, .slice none 0 0, .bool false, .int .i64 of1, .int .i64 og1, .int .i64 pg, .int .i64 acc1, .int .i64 pg, .int .i64 3] 58)))
    have R2 := Lib.hid ((R1.out.alloc (.cells #[.slice f l c, .bool on, .int .i64 tf, .int .i64 tg, .slice none 0 0, .bool false, .int .i64 of1, .int .i64 og1, .int .i64 pg, .int .i64 acc1, .int .i64 pg, .int .i64 3] 58)))
    have T2 := Lib.hid ((BoxAt.newAt (W1) #[.slice f l c, .bool on, .int .i64 tf, .int .i64 tg, .slice none 0 0, .bool false, .int .i64 of1, .int .i64 og1, .int .i64 pg, .int .i64 acc1, .int .i64 pg, .int .i64 3] 58 (W1.heap.size) (by first | omega | (simp; done) | (simp; omega))))
    have B2 := Lib.hid ((bel_alloc B1.out (.cells #[.slice f l c, .bool on, .int .i64 tf, .int .i64 tg, .slice none 0 0, .bool false, .int .i64 of1, .int .i64 og1, .int .i64 pg, .int .i64 acc1, .int .i64 pg, .int .i64 3] 58)))
    obtain ⟨g2, hg2⟩ : ∃ g2, g2 = W1.heap.size := ⟨_, rfl⟩
    obtain ⟨W2, hW2⟩ : ∃ W2, W2 = (W1).alloc (.cells #[.slice f l c, .bool on, .int .i64 tf, .int .i64 tg, .slice none 0 0, .bool false, .int .i64 of1, .int .i64 og1, .int .i64 pg, .int .i64 acc1, .int .i64 pg, .int .i64 3] 58) := ⟨_, rfl⟩
    have hs2 : g2 + 1 ≤ W2.heap.size := by rw [hW2, hg2]; simp
    rw [← hW2] at S2 U2 R2 T2 B2 ⊢
    have hb2 : g1 + 1 + 1 + 1 ≤ g2 := by omega
    rw [← hg2] at T2 ⊢
    clear hg2
    clear hW2 S1 U1 R1 B1 hs1
    have Uc0 := U2.out.get 0 (.bool false) rfl
    have Tc0 := T2.out.get 0 (.slice f l c) rfl
    have Tc1 := T2.out.get 1 (.bool on) rfl
    have Tc2 := T2.out.get 2 (.int .i64 tf) rfl
    have Tc3 := T2.out.get 3 (.int .i64 tg) rfl
    have Tc4 := T2.out.get 4 (.slice none 0 0) rfl
    have Tc5 := T2.out.get 5 (.bool false) rfl
    have Tc6 := T2.out.get 6 (.int .i64 of1) rfl
    have Tc7 := T2.out.get 7 (.int .i64 og1) rfl
    have Tc8 := T2.out.get 8 (.int .i64 pg) rfl
    have Tc9 := T2.out.get 9 (.int .i64 acc1) rfl
    have Tc10 := T2.out.get 10 (.int .i64 pg) rfl
    have Tc11 := T2.out.get 11 (.int .i64 3) rfl
    go_wp2_with (refine wpList_storeB rfl 58 _ _ rfl (g1 + 1 + 1) #[.slice f l c, .bool on, .int .i64 tf, .int .i64 tg, .slice none 0 0, .bool false, .int .i64 of1, .int .i64 og1, .int .i64 pg, .int .i64 acc1, .int .i64 pg, .int .i64 3] _ 58 rfl rfl (by kernel_rfl) (by rfl) (by simp [Value.oneCell']) R2.out ?_)
    have RR := (R2.out.put (cs' := #[.slice f l c, .bool on, .int .i64 tf, .int .i64 tg, .slice none 0 0, .bool false, .int .i64 of1, .int .i64 og1, .int .i64 pg, .int .i64 acc1, .int .i64 pg, .int .i64 3]))
    refine bodyPost_ret (v := .agg #[.slice f l c, .bool on, .int .i64 tf, .int .i64 tg, .slice none 0 0, .bool false, .int .i64 of1, .int .i64 og1, .int .i64 pg, .int .i64 acc1, .int .i64 pg, .int .i64 3]) (by simp [results, Tryz.results17, go_sem, RR.get 0 (.slice f l c) rfl, RR.get 1 (.bool on) rfl, RR.get 2 (.int .i64 tf) rfl, RR.get 3 (.int .i64 tg) rfl, RR.get 4 (.slice none 0 0) rfl, RR.get 5 (.bool false) rfl, RR.get 6 (.int .i64 of1) rfl, RR.get 7 (.int .i64 og1) rfl, RR.get 8 (.int .i64 pg) rfl, RR.get 9 (.int .i64 acc1) rfl, RR.get 10 (.int .i64 pg) rfl, RR.get 11 (.int .i64 3) rfl]) rfl ?_
    exact ⟨rfl, (Below.rowB (g := g1 + 1 + 1) B2.out (cs := #[.slice f l c, .bool on, .int .i64 tf, .int .i64 tg, .slice none 0 0, .bool false, .int .i64 of1, .int .i64 og1, .int .i64 pg, .int .i64 acc1, .int .i64 pg, .int .i64 3]) (show w.heap.size ≤ g1 + 1 + 1 by omega))⟩
  · rw [if_pos rfl, if_pos rfl]
    go_enter Tryz.func17, Tryz.ntmps17
    go_upto_region 1 with fail
    have S1 := Lib.hid ((((BoxAt.newAt (w) #[.slice f l c, .bool on, .int .i64 tf, .int .i64 tg, .slice none 0 0] 56 (w.heap.size) (by first | omega | (simp; done) | (simp; omega))).alloc (.cells #[.bool true, .int .i64 of1, .int .i64 og1] 29)).alloc (.cells #[.slice none 0 0, .bool false, .int .i64 0, .int .i64 0, .slice none 0 0, .bool false, .int .i64 0, .int .i64 0, .int .i64 0, .int .i64 0, .int .i64 0, .int .i64 0] 58)))
    have U1 := Lib.hid (((BoxAt.newAt ((w).alloc (.cells #[.slice f l c, .bool on, .int .i64 tf, .int .i64 tg, .slice none 0 0] 56)) #[.bool true, .int .i64 of1, .int .i64 og1] 29 (w.heap.size + 1) (by first | omega | (simp; done) | (simp; omega))).alloc (.cells #[.slice none 0 0, .bool false, .int .i64 0, .int .i64 0, .slice none 0 0, .bool false, .int .i64 0, .int .i64 0, .int .i64 0, .int .i64 0, .int .i64 0, .int .i64 0] 58)))
    have R1 := Lib.hid ((BoxAt.newAt (((w).alloc (.cells #[.slice f l c, .bool on, .int .i64 tf, .int .i64 tg, .slice none 0 0] 56)).alloc (.cells #[.bool true, .int .i64 of1, .int .i64 og1] 29)) #[.slice none 0 0, .bool false, .int .i64 0, .int .i64 0, .slice none 0 0, .bool false, .int .i64 0, .int .i64 0, .int .i64 0, .int .i64 0, .int .i64 0, .int .i64 0] 58 (w.heap.size + 1 + 1) (by first | omega | (simp; done) | (simp; omega))))
    have B1 := Lib.hid ((bel_alloc (bel_alloc (bel_alloc B0.out (.cells #[.slice f l c, .bool on, .int .i64 tf, .int .i64 tg, .slice none 0 0] 56)) (.cells #[.bool true, .int .i64 of1, .int .i64 og1] 29)) (.cells #[.slice none 0 0, .bool false, .int .i64 0, .int .i64 0, .slice none 0 0, .bool false, .int .i64 0, .int .i64 0, .int .i64 0, .int .i64 0, .int .i64 0, .int .i64 0] 58)))
    obtain ⟨g1, hg1⟩ : ∃ g1, g1 = w.heap.size := ⟨_, rfl⟩
    obtain ⟨W1, hW1⟩ : ∃ W1, W1 = (((w).alloc (.cells #[.slice f l c, .bool on, .int .i64 tf, .int .i64 tg, .slice none 0 0] 56)).alloc (.cells #[.bool true, .int .i64 of1, .int .i64 og1] 29)).alloc (.cells #[.slice none 0 0, .bool false, .int .i64 0, .int .i64 0, .slice none 0 0, .bool false, .int .i64 0, .int .i64 0, .int .i64 0, .int .i64 0, .int .i64 0, .int .i64 0] 58) := ⟨_, rfl⟩
    have hs1 : g1 + 1 + 1 + 1 ≤ W1.heap.size := by rw [hW1, hg1]; simp
    rw [← hW1] at S1 U1 R1 B1 ⊢
    have hb1 : w.heap.size ≤ g1 := by omega
    rw [← hg1] at S1 U1 R1 ⊢
    clear hg1
    clear hW1 B0
    have Sc0 := S1.out.get 0 (.slice f l c) rfl
    have Sc1 := S1.out.get 1 (.bool on) rfl
    have Sc2 := S1.out.get 2 (.int .i64 tf) rfl
    have Sc3 := S1.out.get 3 (.int .i64 tg) rfl
    have Sc4 := S1.out.get 4 (.slice none 0 0) rfl
    have Uc0 := U1.out.get 0 (.bool true) rfl
    have Uc1 := U1.out.get 1 (.int .i64 of1) rfl
    have Uc2 := U1.out.get 2 (.int .i64 og1) rfl
    go_upto_region 2 with fail
    clear Sc0 Sc1 Sc2 Sc3 Sc4 Uc0 Uc1 Uc2
    have S2 := Lib.hid ((S1.out.alloc (.cells #[.slice f l c, .bool on, .int .i64 tf, .int .i64 tg, .slice none 0 0, .bool true, .int .i64 of1, .int .i64 og1, .int .i64 pg, .int .i64 acc1, .int .i64 pg, .int .i64 3] 58)))
    have U2 := Lib.hid ((U1.out.alloc (.cells #[.slice f l c, .bool on, .int .i64 tf, .int .i64 tg, .slice none 0 0, .bool true, .int .i64 of1, .int .i64 og1, .int .i64 pg, .int .i64 acc1, .int .i64 pg, .int .i64 3] 58)))
    have R2 := Lib.hid ((R1.out.alloc (.cells #[.slice f l c, .bool on, .int .i64 tf, .int .i64 tg, .slice none 0 0, .bool true, .int .i64 of1, .int .i64 og1, .int .i64 pg, .int .i64 acc1, .int .i64 pg, .int .i64 3] 58)))
    have T2 := Lib.hid ((BoxAt.newAt (W1) #[.slice f l c, .bool on, .int .i64 tf, .int .i64 tg, .slice none 0 0, .bool true, .int .i64 of1, .int .i64 og1, .int .i64 pg, .int .i64 acc1, .int .i64 pg, .int .i64 3] 58 (W1.heap.size) (by first | omega | (simp; done) | (simp; omega))))
    have B2 := Lib.hid ((bel_alloc B1.out (.cells #[.slice f l c, .bool on, .int .i64 tf, .int .i64 tg, .slice none 0 0, .bool true, .int .i64 of1, .int .i64 og1, .int .i64 pg, .int .i64 acc1, .int .i64 pg, .int .i64 3] 58)))
    obtain ⟨g2, hg2⟩ : ∃ g2, g2 = W1.heap.size := ⟨_, rfl⟩
    obtain ⟨W2, hW2⟩ : ∃ W2, W2 = (W1).alloc (.cells #[.slice f l c, .bool on, .int .i64 tf, .int .i64 tg, .slice none 0 0, .bool true, .int .i64 of1, .int .i64 og1, .int .i64 pg, .int .i64 acc1, .int .i64 pg, .int .i64 3] 58) := ⟨_, rfl⟩
    have hs2 : g2 + 1 ≤ W2.heap.size := by rw [hW2, hg2]; simp
    rw [← hW2] at S2 U2 R2 T2 B2 ⊢
    have hb2 : g1 + 1 + 1 + 1 ≤ g2 := by omega
    rw [← hg2] at T2 ⊢
    clear hg2
    clear hW2 S1 U1 R1 B1 hs1
    have Uc0 := U2.out.get 0 (.bool true) rfl
    have Uc1 := U2.out.get 1 (.int .i64 of1) rfl
    go_wp2_with fail
    refine (HGO.out _ _ _ _ _ _ _ T2.out).mono ?_
    rintro e w3 ⟨rfl, rfl⟩
    go_upto_region 4 with fail
    clear Uc0 Uc1
    have S4 := Lib.hid (((S2.out.other ⟨g2, 11, none⟩ (.int .i64 0) (show g1 ≠ g2 by omega)).other ⟨g2, 10, none⟩ (.int .i64 of1) (show g1 ≠ g2 by omega)))
    have U4 := Lib.hid (((U2.out.other ⟨g2, 11, none⟩ (.int .i64 0) (show g1 + 1 ≠ g2 by omega)).other ⟨g2, 10, none⟩ (.int .i64 of1) (show g1 + 1 ≠ g2 by omega)))
    have R4 := Lib.hid (((R2.out.other ⟨g2, 11, none⟩ (.int .i64 0) (show g1 + 1 + 1 ≠ g2 by omega)).other ⟨g2, 10, none⟩ (.int .i64 of1) (show g1 + 1 + 1 ≠ g2 by omega)))
    have T4 := Lib.hid (((T2.out.set 11 (.int .i64 0) #[.slice f l c, .bool on, .int .i64 tf, .int .i64 tg, .slice none 0 0, .bool true, .int .i64 of1, .int .i64 og1, .int .i64 pg, .int .i64 acc1, .int .i64 pg, .int .i64 0] rfl).set 10 (.int .i64 of1) #[.slice f l c, .bool on, .int .i64 tf, .int .i64 tg, .slice none 0 0, .bool true, .int .i64 of1, .int .i64 og1, .int .i64 pg, .int .i64 acc1, .int .i64 of1, .int .i64 0] rfl))
    have B4 := Lib.hid ((Below.setCell (Below.setCell B2.out (p := ⟨g2, 11, none⟩) (show w.heap.size ≤ g2 by omega) (.int .i64 0)) (p := ⟨g2, 10, none⟩) (show w.heap.size ≤ g2 by omega) (.int .i64 of1)))
    obtain ⟨W4, hW4⟩ : ∃ W4, W4 = ((W2).setCell ⟨g2, 11, none⟩ (.int .i64 0)).setCell ⟨g2, 10, none⟩ (.int .i64 of1) := ⟨_, rfl⟩
    have hs4 : g2 + 1 ≤ W4.heap.size := by rw [hW4]; first | (simp [World.setCell]; omega) | (simp [World.setCell, World.setRow]; omega) | exact hs2
    rw [← hW4] at S4 U4 R4 T4 B4 ⊢
    clear hW4 S2 U2 R2 T2 B2 hs2
    have Tc0 := T4.out.get 0 (.slice f l c) rfl
    have Tc1 := T4.out.get 1 (.bool on) rfl
    have Tc2 := T4.out.get 2 (.int .i64 tf) rfl
    have Tc3 := T4.out.get 3 (.int .i64 tg) rfl
    have Tc4 := T4.out.get 4 (.slice none 0 0) rfl
    have Tc5 := T4.out.get 5 (.bool true) rfl
    have Tc6 := T4.out.get 6 (.int .i64 of1) rfl
    have Tc7 := T4.out.get 7 (.int .i64 og1) rfl
    have Tc8 := T4.out.get 8 (.int .i64 pg) rfl
    have Tc9 := T4.out.get 9 (.int .i64 acc1) rfl
    have Tc10 := T4.out.get 10 (.int .i64 of1) rfl
    have Tc11 := T4.out.get 11 (.int .i64 0) rfl
    go_wp2_with (refine wpList_storeB rfl 58 _ _ rfl (g1 + 1 + 1) #[.slice f l c, .bool on, .int .i64 tf, .int .i64 tg, .slice none 0 0, .bool true, .int .i64 of1, .int .i64 og1, .int .i64 pg, .int .i64 acc1, .int .i64 of1, .int .i64 0] _ 58 rfl rfl (by kernel_rfl) (by rfl) (by simp [Value.oneCell']) R4.out ?_)
    have RR := (R4.out.put (cs' := #[.slice f l c, .bool on, .int .i64 tf, .int .i64 tg, .slice none 0 0, .bool true, .int .i64 of1, .int .i64 og1, .int .i64 pg, .int .i64 acc1, .int .i64 of1, .int .i64 0]))
    refine bodyPost_ret (v := .agg #[.slice f l c, .bool on, .int .i64 tf, .int .i64 tg, .slice none 0 0, .bool true, .int .i64 of1, .int .i64 og1, .int .i64 pg, .int .i64 acc1, .int .i64 of1, .int .i64 0]) (by simp [results, Tryz.results17, go_sem, RR.get 0 (.slice f l c) rfl, RR.get 1 (.bool on) rfl, RR.get 2 (.int .i64 tf) rfl, RR.get 3 (.int .i64 tg) rfl, RR.get 4 (.slice none 0 0) rfl, RR.get 5 (.bool true) rfl, RR.get 6 (.int .i64 of1) rfl, RR.get 7 (.int .i64 og1) rfl, RR.get 8 (.int .i64 pg) rfl, RR.get 9 (.int .i64 acc1) rfl, RR.get 10 (.int .i64 of1) rfl, RR.get 11 (.int .i64 0) rfl]) rfl ?_
    exact ⟨rfl, (Below.rowB (g := g1 + 1 + 1) B4.out (cs := #[.slice f l c, .bool on, .int .i64 tf, .int .i64 tg, .slice none 0 0, .bool true, .int .i64 of1, .int .i64 og1, .int .i64 pg, .int .i64 acc1, .int .i64 of1, .int .i64 0]) (show w.heap.size ≤ g1 + 1 + 1 by omega))⟩
end
section
open Go.ChangeShapes Go.WideShapes Go.ChangeAt Go.RowKit Go.Deep

/-- A leaf's end within a whole trip. -/
theorem trans_leaf (l : Nat) (X : Nat → BitVec 64) (on : Bool) (tf pg acc : Int) (t0 : 0 ≤ tf) (p0 : 0 ≤ pg) {n : Nat} {lv cur : Int} {R : List Int} {a : Hit × Flt × List Int} {d : Dsc} (ha : midD l X on tf cur 0 = a) (hk : a.2.1.k = 0) (hd : tblD X 1 lv a.1.f pg = d) (h1 : d.k = 2) :
    transS (fun m a => midD l X on tf m a) (fun lv f => tblD X 1 lv f pg) pg acc (n + 1) lv cur R = ((passD l X on tf pg acc lv d).1, (passD l X on tf pg acc lv d).2.1, R ++ (a.2.2 ++ [a.1.f]) ++ (passD l X on tf pg acc lv d).2.2) := by
  unfold passD
  have df0 : 0 ≤ d.f := by rw [← hd]; exact (tbl_frame X 1 lv a.1.f pg).1
  have m0 : 0 ≤ d.f + pg % cov lv := by have := Int.emod_nonneg pg (show cov lv ≠ 0 by have := cov_pos lv; omega); omega
  by_cases hg : (flagA d.at' acc 1 lv pg).k = 0
  · rw [if_pos hg]
    unfold landD
    have hc := mid_cases l X on tf (d.f + pg % cov lv) acc t0 m0
    obtain ⟨b, hb⟩ : ∃ b, midD l X on tf (d.f + pg % cov lv) acc = b := ⟨_, rfl⟩
    rw [hb] at hc ⊢
    by_cases hbk : b.2.1.k = 0
    · rw [if_pos hbk, transS_hit (M := fun m a => midD l X on tf m a) (T := fun lv f => tblD X 1 lv f pg) ha hk hd h1 hg hb hbk]
      have : b.2.1 = flt0 := by
        rcases hc.2.2 with ⟨h, _⟩ | ⟨h, _⟩
        · exact h
        · exact absurd hbk h
      rw [this]
      simp only [List.append_assoc, List.cons_append, List.nil_append]
    · rw [if_neg hbk, transS_far (M := fun m a => midD l X on tf m a) (T := fun lv f => tblD X 1 lv f pg) ha hk hd h1 hg hb hbk]
      simp only [List.append_assoc, List.cons_append, List.nil_append]
  · rw [if_neg hg, transS_flag (M := fun m a => midD l X on tf m a) (T := fun lv f => tblD X 1 lv f pg) ha hk hd h1 hg]
    simp only [List.append_assoc, List.append_nil]
theorem trip_len (l : Nat) (X : Nat → BitVec 64) (on : Bool) (tf pg cur lv : Int) (t0 : 0 ≤ tf) (m0 : 0 ≤ cur) : (lookD l X on tf pg cur lv).2.2.length ≤ 5 := by
  unfold lookD
  have := midD_len l X on tf t0 cur 0 m0
  split
  · simp; omega
  · simp only; omega
def lvn (tb : Nat) (w : World) : Nat := match w.cell? ⟨tb, 11, none⟩ with
  | some v => (4 - intOf v).toNat
  | none => 0
theorem lvn_of {tb : Nat} {w : World} {a b c d e f g h i j k : Value} {lv : Int} (H : BoxAt w tb #[a, b, c, d, e, f, g, h, i, j, k, .int .i64 lv] 58) : lvn tb w = (4 - lv).toNat := by
  unfold lvn
  rw [H.get 11 (.int .i64 lv) rfl]
  rfl
set_option maxRecDepth 100000 in
set_option maxHeartbeats 6400000 in
theorem nfollow_any (f : Option Addr) (l c : Nat) (X : Nat → BitVec 64) (on : Bool) (tf tg : Int) (on1 : Bool) (of1 og1 pg acc1 : Int) (tb B : Nat) (w0 w : World) (hac : numB acc1 2 = true) (hX : WordsAt w0 f l X) (hlc : l ≤ c) (hM : okM l = true) (t0 : 0 ≤ tf) (t1 : tf ≤ 4095)
    (hB0 : Below w0.heap.size w0 w) (h0 : w0.heap.size ≤ tb) (hBw : B ≤ w.heap.size) (htB : tb < B) (p0 : 0 ≤ pg) (p1 : pg ≤ 4095) (o0 : 0 ≤ of1) (o1 : of1 ≤ 4095) (hT : BoxAt w tb #[.slice f l c, .bool on, .int .i64 tf, .int .i64 tg, .slice none 0 0, .bool on1, .int .i64 of1, .int .i64 og1, .int .i64 pg, .int .i64 acc1, .int .i64 of1, .int .i64 0] 58) :
    Calls Tryz.prog 27 #[.pointer (some ⟨tb, 0, none⟩)] w (TripN f l c on tf tg on1 of1 og1 pg acc1 tb B [] (transS (fun m a => midD l X on tf m a) (fun lv f => tblD X 1 lv f pg) pg acc1 4 0 of1 []) w) := by
  have HL := Lib.hid (fun cur lv f' c' R W hB0 hBw hO hk m0 m1 g0 g3 hT => nlook_any f l c X on tf tg on1 of1 og1 pg acc1 cur lv f' c' R tb B w0 W hX hlc hM t0 t1 hB0 h0 hBw htB hO hk m0 m1 p0 p1 g0 g3 hT)
  have HPA := Lib.hid (fun cur lv d f' c' R W hB0 hBw hO hk g0 g3 d0 d1 hT => npass_any f l c X on tf tg on1 of1 og1 pg acc1 cur lv d f' c' R tb B w0 W hac hX hlc hM t0 t1 hB0 h0 hBw htB hO hk p0 g0 g3 d0 d1 hT)
  have HGO := Lib.hid (fun cur lv rd a b W hT => ngoTo_any f l c on tf tg on1 of1 og1 pg acc1 cur lv rd a b tb W hT)
  have HIF := Lib.hid (fun fk fs fl fw fp W => nfault_any ⟨fk, fs, fl, fw, fp⟩ W)
  unfold fltV at HIF
  simp only at HIF
  have HLN := Lib.hid (fun cur lv m0 => trip_len l X on tf pg cur lv t0 m0)
  have HTL := Lib.hid (fun lv cur R n a d => trans_leaf l X on tf pg acc1 t0 p0 (n := n) (lv := lv) (cur := cur) (R := R) (a := a) (d := d))
  obtain ⟨q, hq⟩ : ∃ q, q = transS (fun m a => midD l X on tf m a) (fun lv f => tblD X 1 lv f pg) pg acc1 4 0 of1 [] := ⟨_, rfl⟩
  rw [← hq]
  have HQ := Lib.hid (show transS (fun m a => midD l X on tf m a) (fun lv f => tblD X 1 lv f pg) pg acc1 (4 - (0 : Int)).toNat 0 of1 [] = q from hq.symm)
  clear hq
  have T0 := Lib.hid hT
  have HB0 := Lib.hid hB0
  have K0 := Lib.hid (Kep.refl (tb := tb) (B := B) (ow := [3]) w)
  have ON := Lib.hid (OwnI.nil w B)
  clear hX hB0 hT hlc hM hac t0 t1
  go_enter Tryz.func27, Tryz.ntmps27
  go_wp2
  have T1 := Lib.hid (((T0.out.alloc (.cells z9 40)).alloc (.cells z5 42)))
  have H1 := Lib.hid (((BoxAt.newAt (w) z9 40 (w.heap.size) (by first | omega | (simp; done) | (simp; omega))).alloc (.cells z5 42)))
  have F1 := Lib.hid ((BoxAt.newAt ((w).alloc (.cells z9 40)) z5 42 (w.heap.size + 1) (by first | omega | (simp; done) | (simp; omega))))
  have O1 := Lib.hid (((ON.out.alloc (.cells z9 40)).alloc (.cells z5 42)))
  have B1 := Lib.hid ((bel_alloc (bel_alloc HB0.out (.cells z9 40)) (.cells z5 42)))
  have K1 := Lib.hid (((K0.out.alloc (.cells z9 40)).alloc (.cells z5 42)))
  obtain ⟨g1, hg1⟩ : ∃ g1, g1 = w.heap.size := ⟨_, rfl⟩
  obtain ⟨W1, hW1⟩ : ∃ W1, W1 = ((w).alloc (.cells z9 40)).alloc (.cells z5 42) := ⟨_, rfl⟩
  have hs1 : g1 + 1 + 1 ≤ W1.heap.size := by rw [hW1, hg1]; simp
  rw [← hW1] at T1 H1 F1 O1 B1 K1 ⊢
  have hb1 : w.heap.size ≤ g1 := by omega
  rw [← hg1] at H1 F1 ⊢
  clear hg1
  clear hW1 T0 ON HB0 K0
  go_loopw [] (fun wr => ∃ (lv cur : Int) (R : List Int) (f' : Option Addr) (c' : Nat), 0 ≤ lv ∧ lv ≤ 3 ∧ 0 ≤ cur ∧ cur ≤ 4095 ∧ Hid ((R.length : Int) ≤ 5 * lv) ∧ Hid (BoxAt wr tb #[.slice f l c, .bool on, .int .i64 tf, .int .i64 tg, .slice f' R.length c', .bool on1, .int .i64 of1, .int .i64 og1, .int .i64 pg, .int .i64 acc1, .int .i64 cur, .int .i64 lv] 58) ∧ Hid (BoxAt wr g1 z9 40) ∧ Hid (BoxAt wr (g1 + 1) z5 42) ∧ Hid (OwnI wr B (.slice f' R.length c') R) ∧ Hid (Below w0.heap.size w0 wr) ∧ Hid (Kep tb B [3] w wr) ∧ Hid (transS (fun m a => midD l X on tf m a) (fun lv f => tblD X 1 lv f pg) pg acc1 (4 - lv).toNat lv cur R = q)) (fun wr => lvn tb wr)
  case atStart => exact ⟨0, of1, [], none, 0, by decide, by decide, o0, o1, (show (([] : List Int).length : Int) ≤ 5 * 0 from by decide), T1.out, H1.out, F1.out, O1.out, B1.out, K1.out, HQ.out⟩
  case round =>
    clear HQ T1 H1 F1 O1 B1 K1 o0 o1
    obtain ⟨lv, cur, R, f', c', g0, g3, m0, m1, HR, T1, H1, F1, O1, B1, K1, HQ⟩ := hrel
    have hn : (4 - lv).toNat = (4 - (lv + 1)).toNat + 1 := by omega
    rw [hn] at HQ
    clear hn
    have hsr : g1 + 1 + 1 ≤ wr.heap.size := F1.out.lt
    have hlv1 := Lib.hid (lvn_of T1.out)
    have hRl : R.length ≤ 50 := by have := HR.out; omega
    have hLN := HLN.out cur lv m0
    obtain ⟨a, ha⟩ : ∃ a, midD l X on tf cur 0 = a := ⟨_, rfl⟩
    have hld : lookD l X on tf pg cur lv = if a.2.1.k = 0 then (tblD X 1 lv a.1.f pg, flt0, a.2.2 ++ [a.1.f]) else (dz, ⟨a.2.1.k, a.2.1.st, a.2.1.lv, true, a.2.1.p⟩, a.2.2) := by
      unfold lookD
      rw [ha]
    have HLK := Lib.hid (HL.out cur lv f' c' R)
    rw [hld] at HLK hLN
    clear hld
    by_cases hk0 : a.2.1.k = 0
    · rw [if_pos hk0] at HLK hLN
      have hkd := tbl_kind X 1 lv a.1.f pg
      have hfd := tbl_frame X 1 lv a.1.f pg
      have hin := tbl_in X 1 lv a.1.f pg
      obtain ⟨d, hd⟩ : ∃ d, tblD X 1 lv a.1.f pg = d := ⟨_, rfl⟩
      rw [hd] at HLK hkd hfd hin
      rcases hkd with hkd | ⟨hkd, h3⟩ | hkd
      · have HE := Lib.hid ((transS_none (M := fun m a => midD l X on tf m a) (T := fun lv f => tblD X 1 lv f pg) ha hk0 hd hkd).symm.trans HQ.out)
        rw [List.append_assoc] at HE
        obtain ⟨Q, hQ⟩ : ∃ Q, Q = a.2.2 ++ [a.1.f] := ⟨_, rfl⟩
        rw [← hQ] at HE HLK hLN
        clear hQ hk0 hd HQ ha
        obtain ⟨dk, df, dr, dw, dx, da, dn, ds, d0⟩ := d
        simp only at hkd hfd hin HE hLN
        subst hkd
        unfold LookN dscV fltV flt0 at HLK
        simp only at HLK
        go_wp2_with fail
        refine (HLK.out _ B1.out (by first | omega | (simp; done) | (simp; omega)) O1.out hRl m0 m1 g0 g3 T1.out).mono ?_
        rintro e w21 ⟨f21, c21, rfl, qT21, qO21, qW21⟩
        have hz21 := qW21.size
        have T21 := Lib.hid (show BoxAt w21 (tb) #[.slice f l c, .bool on, .int .i64 tf, .int .i64 tg, .slice f21 (R ++ Q).length c21, .bool on1, .int .i64 of1, .int .i64 og1, .int .i64 pg, .int .i64 acc1, .int .i64 cur, .int .i64 lv] 58 from qT21)
        have H21 := Lib.hid ((qW21.box H1.out (by decide) (show g1 ≠ tb by omega)))
        have F21 := Lib.hid ((qW21.box F1.out (by decide) (show g1 + 1 ≠ tb by omega)))
        have O21 := Lib.hid (show OwnI w21 (B) (.slice f21 (R ++ Q).length c21) (R ++ Q) from qO21)
        have B21 := Lib.hid ((qW21.under B1.out (by first | omega | (simp; done) | (simp; omega)) (show w0.heap.size ≤ tb by omega) (show w0.heap.size ≤ B by omega)))
        have K21 := Lib.hid ((K1.out.trans qW21))
        skip
        have hs21 : g1 + 1 + 1 ≤ w21.heap.size := by omega
        clear T1 H1 F1 O1 B1 K1 qT21 qO21 qW21 hz21
        go_upto_region 2 with fail
        have T22 := Lib.hid (((T21.out.alloc (.cells #[.int .i64 0, .int .i64 df, .bool dr, .bool dw, .bool dx, .bool da, .bool dn, .int .i64 ds, .int .i64 d0] 70)).alloc (.cells z5 42)))
        have H22 := Lib.hid (((H21.out.alloc (.cells #[.int .i64 0, .int .i64 df, .bool dr, .bool dw, .bool dx, .bool da, .bool dn, .int .i64 ds, .int .i64 d0] 70)).alloc (.cells z5 42)))
        have F22 := Lib.hid (((F21.out.alloc (.cells #[.int .i64 0, .int .i64 df, .bool dr, .bool dw, .bool dx, .bool da, .bool dn, .int .i64 ds, .int .i64 d0] 70)).alloc (.cells z5 42)))
        have D22 := Lib.hid (((BoxAt.newAt (w21) #[.int .i64 0, .int .i64 df, .bool dr, .bool dw, .bool dx, .bool da, .bool dn, .int .i64 ds, .int .i64 d0] 70 (w21.heap.size) (by first | omega | (simp; done) | (simp; omega))).alloc (.cells z5 42)))
        have J22 := Lib.hid ((BoxAt.newAt ((w21).alloc (.cells #[.int .i64 0, .int .i64 df, .bool dr, .bool dw, .bool dx, .bool da, .bool dn, .int .i64 ds, .int .i64 d0] 70)) z5 42 (w21.heap.size + 1) (by first | omega | (simp; done) | (simp; omega))))
        have O22 := Lib.hid (((O21.out.alloc (.cells #[.int .i64 0, .int .i64 df, .bool dr, .bool dw, .bool dx, .bool da, .bool dn, .int .i64 ds, .int .i64 d0] 70)).alloc (.cells z5 42)))
        have B22 := Lib.hid ((bel_alloc (bel_alloc B21.out (.cells #[.int .i64 0, .int .i64 df, .bool dr, .bool dw, .bool dx, .bool da, .bool dn, .int .i64 ds, .int .i64 d0] 70)) (.cells z5 42)))
        have K22 := Lib.hid (((K21.out.alloc (.cells #[.int .i64 0, .int .i64 df, .bool dr, .bool dw, .bool dx, .bool da, .bool dn, .int .i64 ds, .int .i64 d0] 70)).alloc (.cells z5 42)))
        obtain ⟨g22, hg22⟩ : ∃ g22, g22 = w21.heap.size := ⟨_, rfl⟩
        obtain ⟨W22, hW22⟩ : ∃ W22, W22 = ((w21).alloc (.cells #[.int .i64 0, .int .i64 df, .bool dr, .bool dw, .bool dx, .bool da, .bool dn, .int .i64 ds, .int .i64 d0] 70)).alloc (.cells z5 42) := ⟨_, rfl⟩
        have hs22 : g22 + 1 + 1 ≤ W22.heap.size := by rw [hW22, hg22]; simp
        rw [← hW22] at T22 H22 F22 D22 J22 O22 B22 K22 ⊢
        have hb22 : g1 + 1 + 1 ≤ g22 := by omega
        rw [← hg22] at D22 J22 ⊢
        clear hg22
        clear hW22 T21 H21 F21 O21 B21 K21 hs21
        have Jc0 := J22.out.get 0 (.int .i64 0) rfl
        have Jc1 := J22.out.get 1 (.int .i64 0) rfl
        have Jc2 := J22.out.get 2 (.int .i64 0) rfl
        have Jc3 := J22.out.get 3 (.bool false) rfl
        have Jc4 := J22.out.get 4 (.int .i64 0) rfl
        go_wp2_with fail
        refine (HIF.out _ _ _ _ _ _).mono ?_
        rintro e w23 ⟨rfl, hb23⟩
        have hz23 := hb23.size
        have T23 := Lib.hid (T22.out.below hb23)
        have H23 := Lib.hid (H22.out.below hb23)
        have F23 := Lib.hid (F22.out.below hb23)
        have D23 := Lib.hid (D22.out.below hb23)
        have J23 := Lib.hid (J22.out.below hb23)
        have O23 := Lib.hid (O22.out.below hb23)
        have B23 := Lib.hid (bel_trans B22.out hb23)
        have K23 := Lib.hid (K22.out.step hb23)
        skip
        have hs23 : g22 + 1 + 1 ≤ w23.heap.size := by omega
        clear Jc0 Jc1 Jc2 Jc3 Jc4
        clear T22 H22 F22 D22 J22 O22 B22 K22 hs22 hb23 hz23
        have Dc0 := D23.out.get 0 (.int .i64 0) rfl
        go_upto_region 5 with fail
        clear Dc0
        refine wp_region_held_drew (S := (fun w' => BoxAt w' (tb) #[.slice f l c, .bool on, .int .i64 tf, .int .i64 tg, .slice f21 (R ++ Q).length c21, .bool on1, .int .i64 of1, .int .i64 og1, .int .i64 pg, .int .i64 acc1, .int .i64 cur, .int .i64 lv] 58)) (by kernel_rfl) (T23.out.drew) (fun hS => ?_)
        refine tkR 0 17 (v := .agg #[.int .i64 0, .int .i64 0, .bool false, .bool false, .bool false, .bool false, .bool false, .int .i64 0, .int .i64 0]) rfl hS (fun _ _ => by kernel_rfl) ?_
        refine tkR 1 18 (v := .pointer (some ⟨tb, 0, none⟩)) rfl hS (fun _ _ => by kernel_rfl) ?_
        refine tkR 2 19 (v := .pointer (some ⟨tb, 0, none⟩)) rfl hS (fun _ _ => by kernel_rfl) ?_
        refine tkR 3 20 (v := .pointer (some ⟨tb, 11, none⟩)) rfl hS (fun _ _ => by kernel_rfl) ?_
        refine tkR 4 21 (v := .int .i64 lv) rfl hS (fun _ h => run_ld1 3 (.tmp 20) tb 11 (by kernel_rfl) (by kernel_rfl) Tryz.underlying3 rfl ((h).get 11 (.int .i64 lv) rfl)) ?_
        refine tkR 5 22 (v := .pointer (some ⟨tb, 0, none⟩)) rfl hS (fun _ _ => by kernel_rfl) ?_
        refine tkR 6 23 (v := .pointer (some ⟨tb, 0, none⟩)) rfl hS (fun _ _ => by kernel_rfl) ?_
        refine tkR 7 24 (v := .pointer (some ⟨tb, 8, none⟩)) rfl hS (fun _ _ => by kernel_rfl) ?_
        refine tkR 8 25 (v := .int .i64 pg) rfl hS (fun _ h => run_ld1 3 (.tmp 24) tb 8 (by kernel_rfl) (by kernel_rfl) Tryz.underlying3 rfl ((h).get 8 (.int .i64 pg) rfl)) ?_
        refine tkR 9 26 (v := .agg #[.int .i64 2, .int .i64 1, .int .i64 lv, .bool false, .int .i64 pg]) rfl hS (fun _ _ => by kernel_rfl) ?_
        try simp only [Act.put, List.setIfInBounds_toArray, List.set_cons_zero, List.set_cons_succ]
        refine wpAnyH_ready (rs := [10]) (by kernel_rfl) (by simp) ?_
        refine AllReadyH.cons (o := ⟨none, _, _, _, _, _⟩) rfl (fun K hK => ?_) AllReadyH.nil
        refine step_storeB rfl 40 _ _ rfl _ _ _ 40 rfl rfl (by kernel_rfl) (by rfl) (by simp [Value.oneCell']) (H23.out.drew) ?_
        refine hK.out _ _ ?_ (fun hS' => ?_)
        · exact (hS.row (show tb ≠ g1 by omega))
        clear hK K hS
        have hS := hS'
        clear hS'
        try simp only [Act.put]
        try simp only [Act.put, List.setIfInBounds_toArray, List.set_cons_zero, List.set_cons_succ]
        refine wpAnyH_ready (rs := [11]) (by kernel_rfl) (by simp) ?_
        refine AllReadyH.cons (o := ⟨none, _, _, _, _, _⟩) rfl (fun K hK => ?_) AllReadyH.nil
        refine step_storeB rfl 42 _ _ rfl _ _ _ 42 rfl rfl (by kernel_rfl) (by rfl) (by simp [Value.oneCell']) ((F23.out.drew).row (cs' := #[.int .i64 0, .int .i64 0, .bool false, .bool false, .bool false, .bool false, .bool false, .int .i64 0, .int .i64 0]) (show g1 + 1 ≠ g1 by omega)) ?_
        refine hK.out _ _ ?_ (fun hS' => ?_)
        · exact (hS.row (show tb ≠ g1 + 1 by omega))
        clear hK K hS
        have hS := hS'
        clear hS'
        try simp only [Act.put]
        refine wpAnyH_done (by kernel_rfl) ?_ _
        try simp only [Act.put, List.setIfInBounds_toArray, List.set_cons_zero, List.set_cons_succ]
        have T24 := Lib.hid ((((T23.out.drew).row (cs' := #[.int .i64 0, .int .i64 0, .bool false, .bool false, .bool false, .bool false, .bool false, .int .i64 0, .int .i64 0]) (show tb ≠ g1 by omega)).row (cs' := #[.int .i64 2, .int .i64 1, .int .i64 lv, .bool false, .int .i64 pg]) (show tb ≠ g1 + 1 by omega)))
        have H24 := Lib.hid ((((H23.out.drew).put (cs' := #[.int .i64 0, .int .i64 0, .bool false, .bool false, .bool false, .bool false, .bool false, .int .i64 0, .int .i64 0])).row (cs' := #[.int .i64 2, .int .i64 1, .int .i64 lv, .bool false, .int .i64 pg]) (show g1 ≠ g1 + 1 by omega)))
        have F24 := Lib.hid ((((F23.out.drew).row (cs' := #[.int .i64 0, .int .i64 0, .bool false, .bool false, .bool false, .bool false, .bool false, .int .i64 0, .int .i64 0]) (show g1 + 1 ≠ g1 by omega)).put (cs' := #[.int .i64 2, .int .i64 1, .int .i64 lv, .bool false, .int .i64 pg])))
        have D24 := Lib.hid ((((D23.out.drew).row (cs' := #[.int .i64 0, .int .i64 0, .bool false, .bool false, .bool false, .bool false, .bool false, .int .i64 0, .int .i64 0]) (show g22 ≠ g1 by omega)).row (cs' := #[.int .i64 2, .int .i64 1, .int .i64 lv, .bool false, .int .i64 pg]) (show g22 ≠ g1 + 1 by omega)))
        have J24 := Lib.hid ((((J23.out.drew).row (cs' := #[.int .i64 0, .int .i64 0, .bool false, .bool false, .bool false, .bool false, .bool false, .int .i64 0, .int .i64 0]) (show g22 + 1 ≠ g1 by omega)).row (cs' := #[.int .i64 2, .int .i64 1, .int .i64 lv, .bool false, .int .i64 pg]) (show g22 + 1 ≠ g1 + 1 by omega)))
        have O24 := Lib.hid ((((O23.out.drew).rowN (cs := #[.int .i64 0, .int .i64 0, .bool false, .bool false, .bool false, .bool false, .bool false, .int .i64 0, .int .i64 0]) (O23.out.ne_box H23.out (by decide))).rowN (cs := #[.int .i64 2, .int .i64 1, .int .i64 lv, .bool false, .int .i64 pg]) (O23.out.ne_box F23.out (by decide))))
        have B24 := Lib.hid ((Below.rowB (g := g1 + 1) (Below.rowB (g := g1) (Below.drew B23.out) (cs := #[.int .i64 0, .int .i64 0, .bool false, .bool false, .bool false, .bool false, .bool false, .int .i64 0, .int .i64 0]) (show w0.heap.size ≤ g1 by omega)) (cs := #[.int .i64 2, .int .i64 1, .int .i64 lv, .bool false, .int .i64 pg]) (show w0.heap.size ≤ g1 + 1 by omega)))
        have K24 := Lib.hid ((((K23.out.drew).row (g1) #[.int .i64 0, .int .i64 0, .bool false, .bool false, .bool false, .bool false, .bool false, .int .i64 0, .int .i64 0] (show w.heap.size ≤ g1 by omega)).row (g1 + 1) #[.int .i64 2, .int .i64 1, .int .i64 lv, .bool false, .int .i64 pg] (show w.heap.size ≤ g1 + 1 by omega)))
        obtain ⟨W24, hW24⟩ : ∃ W24, W24 = (((w23).drew).setRow (g1) #[.int .i64 0, .int .i64 0, .bool false, .bool false, .bool false, .bool false, .bool false, .int .i64 0, .int .i64 0]).setRow (g1 + 1) #[.int .i64 2, .int .i64 1, .int .i64 lv, .bool false, .int .i64 pg] := ⟨_, rfl⟩
        have hs24 : g22 + 1 + 1 ≤ W24.heap.size := by rw [hW24]; first | exact hs23 | (simp; omega)
        rw [← hW24] at T24 H24 F24 D24 J24 O24 B24 K24 ⊢
        clear hW24 T23 H23 F23 D23 J23 O23 B23 K23 hs23
        go_wp2
        have RH := H24.out
        have RF := F24.out
        refine bodyPost_ret (v := .tuple #[.agg #[.int .i64 0, .int .i64 0, .bool false, .bool false, .bool false, .bool false, .bool false, .int .i64 0, .int .i64 0], .agg #[.int .i64 2, .int .i64 1, .int .i64 lv, .bool false, .int .i64 pg]]) (by simp [results, Tryz.results27, go_sem, RH.get 0 (.int .i64 0) rfl, RH.get 1 (.int .i64 0) rfl, RH.get 2 (.bool false) rfl, RH.get 3 (.bool false) rfl, RH.get 4 (.bool false) rfl, RH.get 5 (.bool false) rfl, RH.get 6 (.bool false) rfl, RH.get 7 (.int .i64 0) rfl, RH.get 8 (.int .i64 0) rfl, RF.get 0 (.int .i64 2) rfl, RF.get 1 (.int .i64 1) rfl, RF.get 2 (.int .i64 lv) rfl, RF.get 3 (.bool false) rfl, RF.get 4 (.int .i64 pg) rfl]) rfl ?_
        have HE := HE.out
        rw [← HE]
        exact ⟨f21, c21, cur, lv, rfl, by simp only [List.nil_append]; exact T24.out, by simp only [List.nil_append]; exact O24.out, K24.out⟩
      · have HE := Lib.hid ((transS_table (M := fun m a => midD l X on tf m a) (T := fun lv f => tblD X 1 lv f pg) ha hk0 hd hkd).symm.trans HQ.out)
        rw [List.append_assoc] at HE
        obtain ⟨Q, hQ⟩ : ∃ Q, Q = a.2.2 ++ [a.1.f] := ⟨_, rfl⟩
        rw [← hQ] at HE HLK hLN
        clear hQ hk0 hd HQ ha
        obtain ⟨dk, df, dr, dw, dx, da, dn, ds, d0⟩ := d
        simp only at hkd hfd hin HE hLN
        subst hkd
        unfold LookN dscV fltV flt0 at HLK
        simp only at HLK
        have i1 : IntKind.i64.wrap (lv + 1) = lv + 1 := IntWalk.i64_in _ (by omega)
        go_wp2_with fail
        refine (HLK.out _ B1.out (by first | omega | (simp; done) | (simp; omega)) O1.out hRl m0 m1 g0 g3 T1.out).mono ?_
        rintro e w21 ⟨f21, c21, rfl, qT21, qO21, qW21⟩
        have hz21 := qW21.size
        have T21 := Lib.hid (show BoxAt w21 (tb) #[.slice f l c, .bool on, .int .i64 tf, .int .i64 tg, .slice f21 (R ++ Q).length c21, .bool on1, .int .i64 of1, .int .i64 og1, .int .i64 pg, .int .i64 acc1, .int .i64 cur, .int .i64 lv] 58 from qT21)
        have H21 := Lib.hid ((qW21.box H1.out (by decide) (show g1 ≠ tb by omega)))
        have F21 := Lib.hid ((qW21.box F1.out (by decide) (show g1 + 1 ≠ tb by omega)))
        have O21 := Lib.hid (show OwnI w21 (B) (.slice f21 (R ++ Q).length c21) (R ++ Q) from qO21)
        have B21 := Lib.hid ((qW21.under B1.out (by first | omega | (simp; done) | (simp; omega)) (show w0.heap.size ≤ tb by omega) (show w0.heap.size ≤ B by omega)))
        have K21 := Lib.hid ((K1.out.trans qW21))
        skip
        have hs21 : g1 + 1 + 1 ≤ w21.heap.size := by omega
        clear T1 H1 F1 O1 B1 K1 qT21 qO21 qW21 hz21
        go_upto_region 2 with fail
        have T22 := Lib.hid (((T21.out.alloc (.cells #[.int .i64 1, .int .i64 df, .bool dr, .bool dw, .bool dx, .bool da, .bool dn, .int .i64 ds, .int .i64 d0] 70)).alloc (.cells z5 42)))
        have H22 := Lib.hid (((H21.out.alloc (.cells #[.int .i64 1, .int .i64 df, .bool dr, .bool dw, .bool dx, .bool da, .bool dn, .int .i64 ds, .int .i64 d0] 70)).alloc (.cells z5 42)))
        have F22 := Lib.hid (((F21.out.alloc (.cells #[.int .i64 1, .int .i64 df, .bool dr, .bool dw, .bool dx, .bool da, .bool dn, .int .i64 ds, .int .i64 d0] 70)).alloc (.cells z5 42)))
        have D22 := Lib.hid (((BoxAt.newAt (w21) #[.int .i64 1, .int .i64 df, .bool dr, .bool dw, .bool dx, .bool da, .bool dn, .int .i64 ds, .int .i64 d0] 70 (w21.heap.size) (by first | omega | (simp; done) | (simp; omega))).alloc (.cells z5 42)))
        have J22 := Lib.hid ((BoxAt.newAt ((w21).alloc (.cells #[.int .i64 1, .int .i64 df, .bool dr, .bool dw, .bool dx, .bool da, .bool dn, .int .i64 ds, .int .i64 d0] 70)) z5 42 (w21.heap.size + 1) (by first | omega | (simp; done) | (simp; omega))))
        have O22 := Lib.hid (((O21.out.alloc (.cells #[.int .i64 1, .int .i64 df, .bool dr, .bool dw, .bool dx, .bool da, .bool dn, .int .i64 ds, .int .i64 d0] 70)).alloc (.cells z5 42)))
        have B22 := Lib.hid ((bel_alloc (bel_alloc B21.out (.cells #[.int .i64 1, .int .i64 df, .bool dr, .bool dw, .bool dx, .bool da, .bool dn, .int .i64 ds, .int .i64 d0] 70)) (.cells z5 42)))
        have K22 := Lib.hid (((K21.out.alloc (.cells #[.int .i64 1, .int .i64 df, .bool dr, .bool dw, .bool dx, .bool da, .bool dn, .int .i64 ds, .int .i64 d0] 70)).alloc (.cells z5 42)))
        obtain ⟨g22, hg22⟩ : ∃ g22, g22 = w21.heap.size := ⟨_, rfl⟩
        obtain ⟨W22, hW22⟩ : ∃ W22, W22 = ((w21).alloc (.cells #[.int .i64 1, .int .i64 df, .bool dr, .bool dw, .bool dx, .bool da, .bool dn, .int .i64 ds, .int .i64 d0] 70)).alloc (.cells z5 42) := ⟨_, rfl⟩
        have hs22 : g22 + 1 + 1 ≤ W22.heap.size := by rw [hW22, hg22]; simp
        rw [← hW22] at T22 H22 F22 D22 J22 O22 B22 K22 ⊢
        have hb22 : g1 + 1 + 1 ≤ g22 := by omega
        rw [← hg22] at D22 J22 ⊢
        clear hg22
        clear hW22 T21 H21 F21 O21 B21 K21 hs21
        have Jc0 := J22.out.get 0 (.int .i64 0) rfl
        have Jc1 := J22.out.get 1 (.int .i64 0) rfl
        have Jc2 := J22.out.get 2 (.int .i64 0) rfl
        have Jc3 := J22.out.get 3 (.bool false) rfl
        have Jc4 := J22.out.get 4 (.int .i64 0) rfl
        go_wp2_with fail
        refine (HIF.out _ _ _ _ _ _).mono ?_
        rintro e w23 ⟨rfl, hb23⟩
        have hz23 := hb23.size
        have T23 := Lib.hid (T22.out.below hb23)
        have H23 := Lib.hid (H22.out.below hb23)
        have F23 := Lib.hid (F22.out.below hb23)
        have D23 := Lib.hid (D22.out.below hb23)
        have J23 := Lib.hid (J22.out.below hb23)
        have O23 := Lib.hid (O22.out.below hb23)
        have B23 := Lib.hid (bel_trans B22.out hb23)
        have K23 := Lib.hid (K22.out.step hb23)
        skip
        have hs23 : g22 + 1 + 1 ≤ w23.heap.size := by omega
        clear Jc0 Jc1 Jc2 Jc3 Jc4
        clear T22 H22 F22 D22 J22 O22 B22 K22 hs22 hb23 hz23
        have Dc0 := D23.out.get 0 (.int .i64 1) rfl
        go_upto_region 7 with fail
        clear Dc0
        refine wp_region_tail [8] (fun _ => True) (fun w' => BoxAt w' (tb) #[.slice f l c, .bool on, .int .i64 tf, .int .i64 tg, .slice f21 (R ++ Q).length c21, .bool on1, .int .i64 of1, .int .i64 og1, .int .i64 pg, .int .i64 acc1, .int .i64 cur, .int .i64 lv] 58 ∧ BoxAt w' (g22) #[.int .i64 1, .int .i64 df, .bool dr, .bool dw, .bool dx, .bool da, .bool dn, .int .i64 ds, .int .i64 d0] 70) (by kernel_rfl) ?_
        have hS : (fun w' => BoxAt w' (tb) #[.slice f l c, .bool on, .int .i64 tf, .int .i64 tg, .slice f21 (R ++ Q).length c21, .bool on1, .int .i64 of1, .int .i64 og1, .int .i64 pg, .int .i64 acc1, .int .i64 cur, .int .i64 lv] 58 ∧ BoxAt w' (g22) #[.int .i64 1, .int .i64 df, .bool dr, .bool dw, .bool dx, .bool da, .bool dn, .int .i64 ds, .int .i64 d0] 70) w23.drew := ⟨T23.out.drew, D23.out.drew⟩
        skip
        have T24 := Lib.hid ((T23.out.drew))
        have H24 := Lib.hid ((H23.out.drew))
        have F24 := Lib.hid ((F23.out.drew))
        have D24 := Lib.hid ((D23.out.drew))
        have J24 := Lib.hid ((J23.out.drew))
        have O24 := Lib.hid ((O23.out.drew))
        have B24 := Lib.hid ((Below.drew B23.out))
        have K24 := Lib.hid ((K23.out.drew))
        obtain ⟨W24, hW24⟩ : ∃ W24, W24 = (w23).drew := ⟨_, rfl⟩
        have hs24 : g22 + 1 + 1 ≤ W24.heap.size := by rw [hW24]; first | exact hs23 | (simp; omega)
        rw [← hW24] at T24 H24 F24 D24 J24 O24 B24 K24 hS ⊢
        clear hW24 T23 H23 F23 D23 J23 O23 B23 K23 hs23
        refine tail_read 0 (oi := ⟨some 29, _, _, _, _, _⟩) (v := ?_) rfl (by kernel_rfl) (by kernel_rfl) (by kernel_rfl) (by kernel_rfl) (fun _ _ _ h => h) ⟨trivial, hS⟩ (Or.inl ⟨by rfl, ?_⟩) ?_
        rotate_left
        · (intro w' hSw; clear hSw; go_simp; try with_reducible rfl)
        simp only [Act.put, List.setIfInBounds_toArray, List.set_cons_zero, List.set_cons_succ]
        refine tail_read 1 (oi := ⟨some 30, _, _, _, _, _⟩) (v := ?_) rfl (by kernel_rfl) (by kernel_rfl) (by kernel_rfl) (by kernel_rfl) (fun _ _ _ h => h) ⟨trivial, hS⟩ (Or.inl ⟨by rfl, ?_⟩) ?_
        rotate_left
        · (intro w' hSw; clear hSw; go_simp; try with_reducible rfl)
        simp only [Act.put, List.setIfInBounds_toArray, List.set_cons_zero, List.set_cons_succ]
        refine tail_read 2 (oi := ⟨some 31, _, _, _, _, _⟩) (v := ?_) rfl (by kernel_rfl) (by kernel_rfl) (by kernel_rfl) (by kernel_rfl) (fun _ _ _ h => h) ⟨trivial, hS⟩ (Or.inl ⟨by rfl, ?_⟩) ?_
        rotate_left
        · (intro w' hSw; clear hSw; go_simp; try with_reducible rfl)
        simp only [Act.put, List.setIfInBounds_toArray, List.set_cons_zero, List.set_cons_succ]
        refine tail_read 3 (oi := ⟨some 32, _, _, _, _, _⟩) (v := ?_) rfl (by kernel_rfl) (by kernel_rfl) (by kernel_rfl) (by kernel_rfl) (fun _ _ _ h => h) ⟨trivial, hS⟩ (Or.inl ⟨by rfl, ?_⟩) ?_
        rotate_left
        · (intro w' hSw; clear hSw; go_simp; try with_reducible rfl)
        simp only [Act.put, List.setIfInBounds_toArray, List.set_cons_zero, List.set_cons_succ]
        refine tail_chain 4 [5, 8] (oi := ⟨some 33, _, _, _, _, _⟩) (v := ?_) rfl (by kernel_rfl) (by kernel_rfl) (by kernel_rfl) (by kernel_rfl) (fun _ _ _ h => h) ⟨trivial, hS⟩ (Or.inl ⟨by rfl, ?_⟩) ?_
        rotate_left
        · (intro w' hSw; have c0_11 := (hSw.1).get 11 (.int .i64 lv) rfl; clear hSw; go_simp; try with_reducible rfl)
        simp only [Act.put, List.setIfInBounds_toArray, List.set_cons_zero, List.set_cons_succ]
        refine tail_read 5 (oi := ⟨some 34, _, _, _, _, _⟩) (v := ?_) rfl (by kernel_rfl) (by kernel_rfl) (by kernel_rfl) (by kernel_rfl) (fun _ _ _ h => h) ⟨trivial, hS⟩ (Or.inl ⟨by rfl, ?_⟩) ?_
        rotate_left
        · (intro w' hSw; clear hSw; go_simp; try with_reducible rfl)
        simp only [Act.put, List.setIfInBounds_toArray, List.set_cons_zero, List.set_cons_succ]
        refine tail_read 6 (oi := ⟨some 35, _, _, _, _, _⟩) (v := ?_) rfl (by kernel_rfl) (by kernel_rfl) (by kernel_rfl) (by kernel_rfl) (fun _ _ _ h => h) ⟨trivial, hS⟩ (Or.inl ⟨by rfl, ?_⟩) ?_
        rotate_left
        · (intro w' hSw; clear hSw; go_simp; try with_reducible rfl)
        simp only [Act.put, List.setIfInBounds_toArray, List.set_cons_zero, List.set_cons_succ]
        refine tail_chain 7 [8] (oi := ⟨some 36, _, _, _, _, _⟩) (v := ?_) rfl (by kernel_rfl) (by kernel_rfl) (by kernel_rfl) (by kernel_rfl) (fun _ _ _ h => h) ⟨trivial, hS⟩ (Or.inl ⟨by rfl, ?_⟩) ?_
        rotate_left
        · (intro w' hSw; have c1_1 := (hSw.2).get 1 (.int .i64 df) rfl; clear hSw; go_simp; try with_reducible rfl)
        simp only [Act.put, List.setIfInBounds_toArray, List.set_cons_zero, List.set_cons_succ]
        refine tail_last 8 (o := ⟨some 37, _, _, _, _, _⟩) (by decide) (by kernel_rfl) rfl (fun K hK => ?_)
        go_simp
        refine (HGO.out _ _ _ _ _ _ T24.out).mono ?_
        rintro e w25 ⟨rfl, rfl⟩
        refine hK.out _ _ trivial ?_
        clear hK K
        try simp only [Act.put, List.setIfInBounds_toArray, List.set_cons_zero, List.set_cons_succ]
        refine tail_done (by kernel_rfl) ?_
        clear hS
        have T26 := Lib.hid (((T24.out.set 11 (.int .i64 (lv + 1)) #[.slice f l c, .bool on, .int .i64 tf, .int .i64 tg, .slice f21 (R ++ Q).length c21, .bool on1, .int .i64 of1, .int .i64 og1, .int .i64 pg, .int .i64 acc1, .int .i64 cur, .int .i64 (lv + 1)] rfl).set 10 (.int .i64 df) #[.slice f l c, .bool on, .int .i64 tf, .int .i64 tg, .slice f21 (R ++ Q).length c21, .bool on1, .int .i64 of1, .int .i64 og1, .int .i64 pg, .int .i64 acc1, .int .i64 df, .int .i64 (lv + 1)] rfl))
        have H26 := Lib.hid (((H24.out.other ⟨tb, 11, none⟩ (.int .i64 (lv + 1)) (show g1 ≠ tb by omega)).other ⟨tb, 10, none⟩ (.int .i64 df) (show g1 ≠ tb by omega)))
        have F26 := Lib.hid (((F24.out.other ⟨tb, 11, none⟩ (.int .i64 (lv + 1)) (show g1 + 1 ≠ tb by omega)).other ⟨tb, 10, none⟩ (.int .i64 df) (show g1 + 1 ≠ tb by omega)))
        have D26 := Lib.hid (((D24.out.other ⟨tb, 11, none⟩ (.int .i64 (lv + 1)) (show g22 ≠ tb by omega)).other ⟨tb, 10, none⟩ (.int .i64 df) (show g22 ≠ tb by omega)))
        have J26 := Lib.hid (((J24.out.other ⟨tb, 11, none⟩ (.int .i64 (lv + 1)) (show g22 + 1 ≠ tb by omega)).other ⟨tb, 10, none⟩ (.int .i64 df) (show g22 + 1 ≠ tb by omega)))
        have O26 := Lib.hid (((O24.out.otherN ⟨tb, 11, none⟩ (.int .i64 (lv + 1)) (O24.out.ne_box T24.out (by decide))).otherN ⟨tb, 10, none⟩ (.int .i64 df) (O24.out.ne_box T24.out (by decide))))
        have B26 := Lib.hid ((Below.setCell (Below.setCell B24.out (p := ⟨tb, 11, none⟩) (show w0.heap.size ≤ tb by omega) (.int .i64 (lv + 1))) (p := ⟨tb, 10, none⟩) (show w0.heap.size ≤ tb by omega) (.int .i64 df)))
        have K26 := Lib.hid (((K24.out.set 11 (.int .i64 (lv + 1))).set 10 (.int .i64 df)))
        obtain ⟨W26, hW26⟩ : ∃ W26, W26 = ((W24).setCell ⟨tb, 11, none⟩ (.int .i64 (lv + 1))).setCell ⟨tb, 10, none⟩ (.int .i64 df) := ⟨_, rfl⟩
        have hs26 : g22 + 1 + 1 ≤ W26.heap.size := by rw [hW26]; first | (simp [World.setCell]; omega) | (simp [World.setCell, World.setRow]; omega) | exact hs24
        rw [← hW26] at T26 H26 F26 D26 J26 O26 B26 K26 ⊢
        clear hW26 T24 H24 F24 D24 J24 O24 B24 K24 hs24
        go_wp2
        go_roundw
        case rel => exact ⟨lv + 1, df, R ++ Q, f21, c21, by omega, by omega, hfd.1, hfd.2, by show ((R ++ Q).length : Int) ≤ 5 * (lv + 1); have := HR.out; simp; omega, T26.out, H26.out, F26.out, O26.out, B26.out, K26.out, HE.out⟩
        case measure => rw [lvn_of T26.out, hlv1.out]; omega
      · have HE := Lib.hid ((HTL.out lv cur R (4 - (lv + 1)).toNat a d ha hk0 hd hkd).symm.trans HQ.out)
        have hin2 := hin hkd
        clear hin
        obtain ⟨Q, hQ⟩ : ∃ Q, Q = a.2.2 ++ [a.1.f] := ⟨_, rfl⟩
        rw [← hQ] at HE HLK hLN
        clear hQ hk0 hd HQ ha
        obtain ⟨dk, df, dr, dw, dx, da, dn, ds, d0⟩ := d
        simp only at hkd hfd hin2 HE hLN
        subst hkd
        unfold LookN dscV fltV flt0 at HLK
        simp only at HLK
        have HPS := Lib.hid (HPA.out cur lv ⟨2, df, dr, dw, dx, da, dn, ds, d0⟩)
        generalize passD l X on tf pg acc1 lv ⟨2, df, dr, dw, dx, da, dn, ds, d0⟩ = p at *
        obtain ⟨⟨hf, hm, ⟨hr, hw, hx, ha, hn, hs⟩, hl⟩, ⟨fk, fs, fl, fw, fp⟩, P⟩ := p
        unfold TripN dscV hitV fltV at HPS
        simp only at HPS HE
        go_wp2_with fail
        refine (HLK.out _ B1.out (by first | omega | (simp; done) | (simp; omega)) O1.out hRl m0 m1 g0 g3 T1.out).mono ?_
        rintro e w21 ⟨f21, c21, rfl, qT21, qO21, qW21⟩
        have hz21 := qW21.size
        have T21 := Lib.hid (show BoxAt w21 (tb) #[.slice f l c, .bool on, .int .i64 tf, .int .i64 tg, .slice f21 (R ++ Q).length c21, .bool on1, .int .i64 of1, .int .i64 og1, .int .i64 pg, .int .i64 acc1, .int .i64 cur, .int .i64 lv] 58 from qT21)
        have H21 := Lib.hid ((qW21.box H1.out (by decide) (show g1 ≠ tb by omega)))
        have F21 := Lib.hid ((qW21.box F1.out (by decide) (show g1 + 1 ≠ tb by omega)))
        have O21 := Lib.hid (show OwnI w21 (B) (.slice f21 (R ++ Q).length c21) (R ++ Q) from qO21)
        have B21 := Lib.hid ((qW21.under B1.out (by first | omega | (simp; done) | (simp; omega)) (show w0.heap.size ≤ tb by omega) (show w0.heap.size ≤ B by omega)))
        have K21 := Lib.hid ((K1.out.trans qW21))
        skip
        have hs21 : g1 + 1 + 1 ≤ w21.heap.size := by omega
        clear T1 H1 F1 O1 B1 K1 qT21 qO21 qW21 hz21
        go_upto_region 2 with fail
        have T22 := Lib.hid (((T21.out.alloc (.cells #[.int .i64 2, .int .i64 df, .bool dr, .bool dw, .bool dx, .bool da, .bool dn, .int .i64 ds, .int .i64 d0] 70)).alloc (.cells z5 42)))
        have H22 := Lib.hid (((H21.out.alloc (.cells #[.int .i64 2, .int .i64 df, .bool dr, .bool dw, .bool dx, .bool da, .bool dn, .int .i64 ds, .int .i64 d0] 70)).alloc (.cells z5 42)))
        have F22 := Lib.hid (((F21.out.alloc (.cells #[.int .i64 2, .int .i64 df, .bool dr, .bool dw, .bool dx, .bool da, .bool dn, .int .i64 ds, .int .i64 d0] 70)).alloc (.cells z5 42)))
        have D22 := Lib.hid (((BoxAt.newAt (w21) #[.int .i64 2, .int .i64 df, .bool dr, .bool dw, .bool dx, .bool da, .bool dn, .int .i64 ds, .int .i64 d0] 70 (w21.heap.size) (by first | omega | (simp; done) | (simp; omega))).alloc (.cells z5 42)))
        have J22 := Lib.hid ((BoxAt.newAt ((w21).alloc (.cells #[.int .i64 2, .int .i64 df, .bool dr, .bool dw, .bool dx, .bool da, .bool dn, .int .i64 ds, .int .i64 d0] 70)) z5 42 (w21.heap.size + 1) (by first | omega | (simp; done) | (simp; omega))))
        have O22 := Lib.hid (((O21.out.alloc (.cells #[.int .i64 2, .int .i64 df, .bool dr, .bool dw, .bool dx, .bool da, .bool dn, .int .i64 ds, .int .i64 d0] 70)).alloc (.cells z5 42)))
        have B22 := Lib.hid ((bel_alloc (bel_alloc B21.out (.cells #[.int .i64 2, .int .i64 df, .bool dr, .bool dw, .bool dx, .bool da, .bool dn, .int .i64 ds, .int .i64 d0] 70)) (.cells z5 42)))
        have K22 := Lib.hid (((K21.out.alloc (.cells #[.int .i64 2, .int .i64 df, .bool dr, .bool dw, .bool dx, .bool da, .bool dn, .int .i64 ds, .int .i64 d0] 70)).alloc (.cells z5 42)))
        obtain ⟨g22, hg22⟩ : ∃ g22, g22 = w21.heap.size := ⟨_, rfl⟩
        obtain ⟨W22, hW22⟩ : ∃ W22, W22 = ((w21).alloc (.cells #[.int .i64 2, .int .i64 df, .bool dr, .bool dw, .bool dx, .bool da, .bool dn, .int .i64 ds, .int .i64 d0] 70)).alloc (.cells z5 42) := ⟨_, rfl⟩
        have hs22 : g22 + 1 + 1 ≤ W22.heap.size := by rw [hW22, hg22]; simp
        rw [← hW22] at T22 H22 F22 D22 J22 O22 B22 K22 ⊢
        have hb22 : g1 + 1 + 1 ≤ g22 := by omega
        rw [← hg22] at D22 J22 ⊢
        clear hg22
        clear hW22 T21 H21 F21 O21 B21 K21 hs21
        have Jc0 := J22.out.get 0 (.int .i64 0) rfl
        have Jc1 := J22.out.get 1 (.int .i64 0) rfl
        have Jc2 := J22.out.get 2 (.int .i64 0) rfl
        have Jc3 := J22.out.get 3 (.bool false) rfl
        have Jc4 := J22.out.get 4 (.int .i64 0) rfl
        go_wp2_with fail
        refine (HIF.out _ _ _ _ _ _).mono ?_
        rintro e w23 ⟨rfl, hb23⟩
        have hz23 := hb23.size
        have T23 := Lib.hid (T22.out.below hb23)
        have H23 := Lib.hid (H22.out.below hb23)
        have F23 := Lib.hid (F22.out.below hb23)
        have D23 := Lib.hid (D22.out.below hb23)
        have J23 := Lib.hid (J22.out.below hb23)
        have O23 := Lib.hid (O22.out.below hb23)
        have B23 := Lib.hid (bel_trans B22.out hb23)
        have K23 := Lib.hid (K22.out.step hb23)
        skip
        have hs23 : g22 + 1 + 1 ≤ w23.heap.size := by omega
        clear Jc0 Jc1 Jc2 Jc3 Jc4
        clear T22 H22 F22 D22 J22 O22 B22 K22 hs22 hb23 hz23
        have Dc0 := D23.out.get 0 (.int .i64 2) rfl
        have Dc1 := D23.out.get 1 (.int .i64 df) rfl
        have Dc2 := D23.out.get 2 (.bool dr) rfl
        have Dc3 := D23.out.get 3 (.bool dw) rfl
        have Dc4 := D23.out.get 4 (.bool dx) rfl
        have Dc5 := D23.out.get 5 (.bool da) rfl
        have Dc6 := D23.out.get 6 (.bool dn) rfl
        have Dc7 := D23.out.get 7 (.int .i64 ds) rfl
        have Dc8 := D23.out.get 8 (.int .i64 d0) rfl
        have HP2 := HPS.out f21 c21 (R ++ Q) _ B23.out (by first | omega | (simp; done) | (simp; omega)) O23.out (by have := HR.out; simp; omega) g0 g3 hfd.1 hin2 T23.out
        have HP2 := Lib.hid HP2
        go_wp2_with fail
        refine (HP2.out).mono ?_
        rintro e w24 ⟨f24, c24, u24, v24, rfl, qT24, qO24, qW24⟩
        have hz24 := qW24.size
        have T24 := Lib.hid (show BoxAt w24 (tb) #[.slice f l c, .bool on, .int .i64 tf, .int .i64 tg, .slice f24 (R ++ Q ++ P).length c24, .bool on1, .int .i64 of1, .int .i64 og1, .int .i64 pg, .int .i64 acc1, .int .i64 u24, .int .i64 v24] 58 from qT24)
        have H24 := Lib.hid ((qW24.box H23.out (by decide) (show g1 ≠ tb by omega)))
        have F24 := Lib.hid ((qW24.box F23.out (by decide) (show g1 + 1 ≠ tb by omega)))
        have D24 := Lib.hid ((qW24.box D23.out (by decide) (show g22 ≠ tb by omega)))
        have J24 := Lib.hid ((qW24.box J23.out (by decide) (show g22 + 1 ≠ tb by omega)))
        have O24 := Lib.hid (show OwnI w24 (B) (.slice f24 (R ++ Q ++ P).length c24) (R ++ Q ++ P) from qO24)
        have B24 := Lib.hid ((qW24.under B23.out (by first | omega | (simp; done) | (simp; omega)) (show w0.heap.size ≤ tb by omega) (show w0.heap.size ≤ B by omega)))
        have K24 := Lib.hid ((K23.out.trans qW24))
        skip
        have hs24 : g22 + 1 + 1 ≤ w24.heap.size := by omega
        clear Dc0 Dc1 Dc2 Dc3 Dc4 Dc5 Dc6 Dc7 Dc8
        clear T23 H23 F23 D23 J23 O23 B23 K23 hs23 qT24 qO24 qW24 HP2 hz24
        go_wp2_with (first | (refine wpList_storeB rfl 40 _ _ rfl (g1) #[.int .i64 hf, .int .i64 hm, .bool hr, .bool hw, .bool hx, .bool ha, .bool hn, .int .i64 hs, .int .i64 hl] _ 40 rfl rfl (by kernel_rfl) (by rfl) (by simp [Value.oneCell']) H24.out ?_) | (refine wpList_storeB rfl 42 _ _ rfl (g1 + 1) #[.int .i64 fk, .int .i64 fs, .int .i64 fl, .bool fw, .int .i64 fp] _ 42 rfl rfl (by kernel_rfl) (by rfl) (by simp [Value.oneCell']) (F24.out.row (cs' := #[.int .i64 hf, .int .i64 hm, .bool hr, .bool hw, .bool hx, .bool ha, .bool hn, .int .i64 hs, .int .i64 hl]) (show g1 + 1 ≠ g1 by omega)) ?_))
        have RH := ((H24.out.put (cs' := #[.int .i64 hf, .int .i64 hm, .bool hr, .bool hw, .bool hx, .bool ha, .bool hn, .int .i64 hs, .int .i64 hl])).row (cs' := #[.int .i64 fk, .int .i64 fs, .int .i64 fl, .bool fw, .int .i64 fp]) (show g1 ≠ g1 + 1 by omega))
        have RF := ((F24.out.row (cs' := #[.int .i64 hf, .int .i64 hm, .bool hr, .bool hw, .bool hx, .bool ha, .bool hn, .int .i64 hs, .int .i64 hl]) (show g1 + 1 ≠ g1 by omega)).put (cs' := #[.int .i64 fk, .int .i64 fs, .int .i64 fl, .bool fw, .int .i64 fp]))
        refine bodyPost_ret (v := .tuple #[.agg #[.int .i64 hf, .int .i64 hm, .bool hr, .bool hw, .bool hx, .bool ha, .bool hn, .int .i64 hs, .int .i64 hl], .agg #[.int .i64 fk, .int .i64 fs, .int .i64 fl, .bool fw, .int .i64 fp]]) (by simp [results, Tryz.results27, go_sem, RH.get 0 (.int .i64 hf) rfl, RH.get 1 (.int .i64 hm) rfl, RH.get 2 (.bool hr) rfl, RH.get 3 (.bool hw) rfl, RH.get 4 (.bool hx) rfl, RH.get 5 (.bool ha) rfl, RH.get 6 (.bool hn) rfl, RH.get 7 (.int .i64 hs) rfl, RH.get 8 (.int .i64 hl) rfl, RF.get 0 (.int .i64 fk) rfl, RF.get 1 (.int .i64 fs) rfl, RF.get 2 (.int .i64 fl) rfl, RF.get 3 (.bool fw) rfl, RF.get 4 (.int .i64 fp) rfl]) rfl ?_
        have HE := HE.out
        rw [← HE]
        exact ⟨f24, c24, u24, v24, rfl, by simp only [List.nil_append]; exact ((T24.out.row (cs' := #[.int .i64 hf, .int .i64 hm, .bool hr, .bool hw, .bool hx, .bool ha, .bool hn, .int .i64 hs, .int .i64 hl]) (show tb ≠ g1 by omega)).row (cs' := #[.int .i64 fk, .int .i64 fs, .int .i64 fl, .bool fw, .int .i64 fp]) (show tb ≠ g1 + 1 by omega)), by simp only [List.nil_append]; exact ((O24.out.rowN (cs := #[.int .i64 hf, .int .i64 hm, .bool hr, .bool hw, .bool hx, .bool ha, .bool hn, .int .i64 hs, .int .i64 hl]) (O24.out.ne_box H24.out (by decide))).rowN (cs := #[.int .i64 fk, .int .i64 fs, .int .i64 fl, .bool fw, .int .i64 fp]) (O24.out.ne_box F24.out (by decide))), ((K24.out.row (g1) #[.int .i64 hf, .int .i64 hm, .bool hr, .bool hw, .bool hx, .bool ha, .bool hn, .int .i64 hs, .int .i64 hl] (show w.heap.size ≤ g1 by omega)).row (g1 + 1) #[.int .i64 fk, .int .i64 fs, .int .i64 fl, .bool fw, .int .i64 fp] (show w.heap.size ≤ g1 + 1 by omega))⟩
    · rw [if_neg hk0] at HLK hLN
      have HE := Lib.hid ((transS_walk (M := fun m a => midD l X on tf m a) (T := fun lv f => tblD X 1 lv f pg) ha hk0).symm.trans HQ.out)
      obtain ⟨⟨hf, hm, ⟨hr, hw, hx, ha', hn, hs⟩, hl⟩, ⟨fk, fs, fl, fw, fp⟩, Q⟩ := a
      simp only at hk0 HLK hLN HE
      have df : (fk != 0) = true := by simp [hk0]
      clear hk0 ha HQ
      unfold LookN dscV fltV dz at HLK
      simp only at HLK
      skip
      go_wp2_with fail
      refine (HLK.out _ B1.out (by first | omega | (simp; done) | (simp; omega)) O1.out hRl m0 m1 g0 g3 T1.out).mono ?_
      rintro e w21 ⟨f21, c21, rfl, qT21, qO21, qW21⟩
      have hz21 := qW21.size
      have T21 := Lib.hid (show BoxAt w21 (tb) #[.slice f l c, .bool on, .int .i64 tf, .int .i64 tg, .slice f21 (R ++ Q).length c21, .bool on1, .int .i64 of1, .int .i64 og1, .int .i64 pg, .int .i64 acc1, .int .i64 cur, .int .i64 lv] 58 from qT21)
      have H21 := Lib.hid ((qW21.box H1.out (by decide) (show g1 ≠ tb by omega)))
      have F21 := Lib.hid ((qW21.box F1.out (by decide) (show g1 + 1 ≠ tb by omega)))
      have O21 := Lib.hid (show OwnI w21 (B) (.slice f21 (R ++ Q).length c21) (R ++ Q) from qO21)
      have B21 := Lib.hid ((qW21.under B1.out (by first | omega | (simp; done) | (simp; omega)) (show w0.heap.size ≤ tb by omega) (show w0.heap.size ≤ B by omega)))
      have K21 := Lib.hid ((K1.out.trans qW21))
      skip
      have hs21 : g1 + 1 + 1 ≤ w21.heap.size := by omega
      clear T1 H1 F1 O1 B1 K1 qT21 qO21 qW21 hz21
      go_upto_region 2 with fail
      have T22 := Lib.hid (((T21.out.alloc (.cells z9 70)).alloc (.cells #[.int .i64 fk, .int .i64 fs, .int .i64 fl, .bool true, .int .i64 fp] 42)))
      have H22 := Lib.hid (((H21.out.alloc (.cells z9 70)).alloc (.cells #[.int .i64 fk, .int .i64 fs, .int .i64 fl, .bool true, .int .i64 fp] 42)))
      have F22 := Lib.hid (((F21.out.alloc (.cells z9 70)).alloc (.cells #[.int .i64 fk, .int .i64 fs, .int .i64 fl, .bool true, .int .i64 fp] 42)))
      have D22 := Lib.hid (((BoxAt.newAt (w21) z9 70 (w21.heap.size) (by first | omega | (simp; done) | (simp; omega))).alloc (.cells #[.int .i64 fk, .int .i64 fs, .int .i64 fl, .bool true, .int .i64 fp] 42)))
      have J22 := Lib.hid ((BoxAt.newAt ((w21).alloc (.cells z9 70)) #[.int .i64 fk, .int .i64 fs, .int .i64 fl, .bool true, .int .i64 fp] 42 (w21.heap.size + 1) (by first | omega | (simp; done) | (simp; omega))))
      have O22 := Lib.hid (((O21.out.alloc (.cells z9 70)).alloc (.cells #[.int .i64 fk, .int .i64 fs, .int .i64 fl, .bool true, .int .i64 fp] 42)))
      have B22 := Lib.hid ((bel_alloc (bel_alloc B21.out (.cells z9 70)) (.cells #[.int .i64 fk, .int .i64 fs, .int .i64 fl, .bool true, .int .i64 fp] 42)))
      have K22 := Lib.hid (((K21.out.alloc (.cells z9 70)).alloc (.cells #[.int .i64 fk, .int .i64 fs, .int .i64 fl, .bool true, .int .i64 fp] 42)))
      obtain ⟨g22, hg22⟩ : ∃ g22, g22 = w21.heap.size := ⟨_, rfl⟩
      obtain ⟨W22, hW22⟩ : ∃ W22, W22 = ((w21).alloc (.cells z9 70)).alloc (.cells #[.int .i64 fk, .int .i64 fs, .int .i64 fl, .bool true, .int .i64 fp] 42) := ⟨_, rfl⟩
      have hs22 : g22 + 1 + 1 ≤ W22.heap.size := by rw [hW22, hg22]; simp
      rw [← hW22] at T22 H22 F22 D22 J22 O22 B22 K22 ⊢
      have hb22 : g1 + 1 + 1 ≤ g22 := by omega
      rw [← hg22] at D22 J22 ⊢
      clear hg22
      clear hW22 T21 H21 F21 O21 B21 K21 hs21
      have Jc0 := J22.out.get 0 (.int .i64 fk) rfl
      have Jc1 := J22.out.get 1 (.int .i64 fs) rfl
      have Jc2 := J22.out.get 2 (.int .i64 fl) rfl
      have Jc3 := J22.out.get 3 (.bool true) rfl
      have Jc4 := J22.out.get 4 (.int .i64 fp) rfl
      go_wp2_with fail
      refine (HIF.out _ _ _ _ _ _).mono ?_
      rintro e w23 ⟨rfl, hb23⟩
      have hz23 := hb23.size
      have T23 := Lib.hid (T22.out.below hb23)
      have H23 := Lib.hid (H22.out.below hb23)
      have F23 := Lib.hid (F22.out.below hb23)
      have D23 := Lib.hid (D22.out.below hb23)
      have J23 := Lib.hid (J22.out.below hb23)
      have O23 := Lib.hid (O22.out.below hb23)
      have B23 := Lib.hid (bel_trans B22.out hb23)
      have K23 := Lib.hid (K22.out.step hb23)
      skip
      have hs23 : g22 + 1 + 1 ≤ w23.heap.size := by omega
      clear Jc0 Jc1 Jc2 Jc3 Jc4
      clear T22 H22 F22 D22 J22 O22 B22 K22 hs22 hb23 hz23
      go_upto_region 3 with fail
      refine wp_region_held_drew (S := (fun w' => BoxAt w' (g22 + 1) #[.int .i64 fk, .int .i64 fs, .int .i64 fl, .bool true, .int .i64 fp] 42)) (by kernel_rfl) (J23.out.drew) (fun hS => ?_)
      refine tkR 0 13 (v := .agg #[.int .i64 0, .int .i64 0, .bool false, .bool false, .bool false, .bool false, .bool false, .int .i64 0, .int .i64 0]) rfl hS (fun _ _ => by kernel_rfl) ?_
      refine tkR 1 14 (v := .agg #[.int .i64 fk, .int .i64 fs, .int .i64 fl, .bool true, .int .i64 fp]) rfl hS (fun _ h => run_ldN 42 (.tmp 5) (g22 + 1) 0 (by kernel_rfl) (by kernel_rfl) Tryz.underlying42 rfl (by kernel_rfl) ((h).sub 0 _ rfl)) ?_
      try simp only [Act.put, List.setIfInBounds_toArray, List.set_cons_zero, List.set_cons_succ]
      refine wpAnyH_ready (rs := [2]) (by kernel_rfl) (by simp) ?_
      refine AllReadyH.cons (o := ⟨none, _, _, _, _, _⟩) rfl (fun K hK => ?_) AllReadyH.nil
      refine step_storeB rfl 40 _ _ rfl _ _ _ 40 rfl rfl (by kernel_rfl) (by rfl) (by simp [Value.oneCell']) (H23.out.drew) ?_
      refine hK.out _ _ ?_ (fun hS' => ?_)
      · exact (hS.row (show g22 + 1 ≠ g1 by omega))
      clear hK K hS
      have hS := hS'
      clear hS'
      try simp only [Act.put]
      try simp only [Act.put, List.setIfInBounds_toArray, List.set_cons_zero, List.set_cons_succ]
      refine wpAnyH_ready (rs := [3]) (by kernel_rfl) (by simp) ?_
      refine AllReadyH.cons (o := ⟨none, _, _, _, _, _⟩) rfl (fun K hK => ?_) AllReadyH.nil
      refine step_storeB rfl 42 _ _ rfl _ _ _ 42 rfl rfl (by kernel_rfl) (by rfl) (by simp [Value.oneCell']) ((F23.out.drew).row (cs' := #[.int .i64 0, .int .i64 0, .bool false, .bool false, .bool false, .bool false, .bool false, .int .i64 0, .int .i64 0]) (show g1 + 1 ≠ g1 by omega)) ?_
      refine hK.out _ _ ?_ (fun hS' => ?_)
      · exact (hS.row (show g22 + 1 ≠ g1 + 1 by omega))
      clear hK K hS
      have hS := hS'
      clear hS'
      try simp only [Act.put]
      refine wpAnyH_done (by kernel_rfl) ?_ _
      try simp only [Act.put, List.setIfInBounds_toArray, List.set_cons_zero, List.set_cons_succ]
      have T24 := Lib.hid ((((T23.out.drew).row (cs' := #[.int .i64 0, .int .i64 0, .bool false, .bool false, .bool false, .bool false, .bool false, .int .i64 0, .int .i64 0]) (show tb ≠ g1 by omega)).row (cs' := #[.int .i64 fk, .int .i64 fs, .int .i64 fl, .bool true, .int .i64 fp]) (show tb ≠ g1 + 1 by omega)))
      have H24 := Lib.hid ((((H23.out.drew).put (cs' := #[.int .i64 0, .int .i64 0, .bool false, .bool false, .bool false, .bool false, .bool false, .int .i64 0, .int .i64 0])).row (cs' := #[.int .i64 fk, .int .i64 fs, .int .i64 fl, .bool true, .int .i64 fp]) (show g1 ≠ g1 + 1 by omega)))
      have F24 := Lib.hid ((((F23.out.drew).row (cs' := #[.int .i64 0, .int .i64 0, .bool false, .bool false, .bool false, .bool false, .bool false, .int .i64 0, .int .i64 0]) (show g1 + 1 ≠ g1 by omega)).put (cs' := #[.int .i64 fk, .int .i64 fs, .int .i64 fl, .bool true, .int .i64 fp])))
      have D24 := Lib.hid ((((D23.out.drew).row (cs' := #[.int .i64 0, .int .i64 0, .bool false, .bool false, .bool false, .bool false, .bool false, .int .i64 0, .int .i64 0]) (show g22 ≠ g1 by omega)).row (cs' := #[.int .i64 fk, .int .i64 fs, .int .i64 fl, .bool true, .int .i64 fp]) (show g22 ≠ g1 + 1 by omega)))
      have J24 := Lib.hid ((((J23.out.drew).row (cs' := #[.int .i64 0, .int .i64 0, .bool false, .bool false, .bool false, .bool false, .bool false, .int .i64 0, .int .i64 0]) (show g22 + 1 ≠ g1 by omega)).row (cs' := #[.int .i64 fk, .int .i64 fs, .int .i64 fl, .bool true, .int .i64 fp]) (show g22 + 1 ≠ g1 + 1 by omega)))
      have O24 := Lib.hid ((((O23.out.drew).rowN (cs := #[.int .i64 0, .int .i64 0, .bool false, .bool false, .bool false, .bool false, .bool false, .int .i64 0, .int .i64 0]) (O23.out.ne_box H23.out (by decide))).rowN (cs := #[.int .i64 fk, .int .i64 fs, .int .i64 fl, .bool true, .int .i64 fp]) (O23.out.ne_box F23.out (by decide))))
      have B24 := Lib.hid ((Below.rowB (g := g1 + 1) (Below.rowB (g := g1) (Below.drew B23.out) (cs := #[.int .i64 0, .int .i64 0, .bool false, .bool false, .bool false, .bool false, .bool false, .int .i64 0, .int .i64 0]) (show w0.heap.size ≤ g1 by omega)) (cs := #[.int .i64 fk, .int .i64 fs, .int .i64 fl, .bool true, .int .i64 fp]) (show w0.heap.size ≤ g1 + 1 by omega)))
      have K24 := Lib.hid ((((K23.out.drew).row (g1) #[.int .i64 0, .int .i64 0, .bool false, .bool false, .bool false, .bool false, .bool false, .int .i64 0, .int .i64 0] (show w.heap.size ≤ g1 by omega)).row (g1 + 1) #[.int .i64 fk, .int .i64 fs, .int .i64 fl, .bool true, .int .i64 fp] (show w.heap.size ≤ g1 + 1 by omega)))
      obtain ⟨W24, hW24⟩ : ∃ W24, W24 = (((w23).drew).setRow (g1) #[.int .i64 0, .int .i64 0, .bool false, .bool false, .bool false, .bool false, .bool false, .int .i64 0, .int .i64 0]).setRow (g1 + 1) #[.int .i64 fk, .int .i64 fs, .int .i64 fl, .bool true, .int .i64 fp] := ⟨_, rfl⟩
      have hs24 : g22 + 1 + 1 ≤ W24.heap.size := by rw [hW24]; first | exact hs23 | (simp; omega)
      rw [← hW24] at T24 H24 F24 D24 J24 O24 B24 K24 ⊢
      clear hW24 T23 H23 F23 D23 J23 O23 B23 K23 hs23
      go_wp2
      have RH := H24.out
      have RF := F24.out
      refine bodyPost_ret (v := .tuple #[.agg #[.int .i64 0, .int .i64 0, .bool false, .bool false, .bool false, .bool false, .bool false, .int .i64 0, .int .i64 0], .agg #[.int .i64 fk, .int .i64 fs, .int .i64 fl, .bool true, .int .i64 fp]]) (by simp [results, Tryz.results27, go_sem, RH.get 0 (.int .i64 0) rfl, RH.get 1 (.int .i64 0) rfl, RH.get 2 (.bool false) rfl, RH.get 3 (.bool false) rfl, RH.get 4 (.bool false) rfl, RH.get 5 (.bool false) rfl, RH.get 6 (.bool false) rfl, RH.get 7 (.int .i64 0) rfl, RH.get 8 (.int .i64 0) rfl, RF.get 0 (.int .i64 fk) rfl, RF.get 1 (.int .i64 fs) rfl, RF.get 2 (.int .i64 fl) rfl, RF.get 3 (.bool true) rfl, RF.get 4 (.int .i64 fp) rfl]) rfl ?_
      have HE := HE.out
      rw [← HE]
      exact ⟨f21, c21, cur, lv, rfl, by simp only [List.nil_append]; exact T24.out, by simp only [List.nil_append]; exact O24.out, K24.out⟩
theorem land_off (l : Nat) (X : Nat → BitVec 64) (of1 : Int) (on : Bool) (tf pg acc : Int) (t0 : 0 ≤ tf) (p0 : 0 ≤ pg) : transD l X false of1 on tf pg acc = landD l X on tf pg acc 3 [] := by
  unfold transD landD
  rw [if_pos rfl]
  have hc := (mid_cases l X on tf pg acc t0 p0).2.2
  generalize midD l X on tf pg acc = q at *
  by_cases hk : q.2.1.k = 0
  · rw [if_pos hk, if_pos hk]
    rcases hc with ⟨h, _⟩ | ⟨h, _⟩
    · rw [h]; rfl
    · exact absurd hk h
  · rw [if_neg hk, if_neg hk]
    rcases hc with ⟨h, _⟩ | ⟨_, h⟩
    · exact absurd (by rw [h]; rfl) hk
    · rw [← h]
set_option maxRecDepth 100000 in
set_option maxHeartbeats 3200000 in
theorem nend_any (f : Option Addr) (l c : Nat) (X : Nat → BitVec 64) (on : Bool) (tf tg : Int) (on1 : Bool) (of1 og1 pg acc1 : Int) (tb B : Nat) (w0 w : World) (hac : numB acc1 2 = true) (hX : WordsAt w0 f l X) (hlc : l ≤ c) (hM : okM l = true) (t0 : 0 ≤ tf) (t1 : tf ≤ 4095)
    (hB0 : Below w0.heap.size w0 w) (h0 : w0.heap.size ≤ tb) (hBw : B ≤ w.heap.size) (htB : tb < B) (p0 : 0 ≤ pg) (p1 : pg ≤ 4095) (o0 : 0 ≤ of1) (o1 : of1 ≤ 4095) (hT : BoxAt w tb #[.slice f l c, .bool on, .int .i64 tf, .int .i64 tg, .slice none 0 0, .bool on1, .int .i64 of1, .int .i64 og1, .int .i64 pg, .int .i64 acc1, .int .i64 (if on1 = true then of1 else pg), .int .i64 (if on1 = true then 0 else 3)] 58) :
    Calls Tryz.prog 19 #[.pointer (some ⟨tb, 0, none⟩)] w (TripN f l c on tf tg on1 of1 og1 pg acc1 tb B [] (transD l X on1 of1 on tf pg acc1) w) := by
  have K0 := Lib.hid (Kep.refl (tb := tb) (B := B) (ow := [3]) w)
  have ON := Lib.hid (OwnI.nil w B)
  cases on1
  · rw [if_neg (by decide), if_neg (by decide)] at hT
    have HL := Lib.hid (fun W hB0 hBw hO hT => nlandN_any f l c X on tf tg false of1 og1 pg acc1 pg 3 none 0 [] tb B w0 W hac hX hlc hM t0 t1 hB0 h0 hBw htB hO (by decide) p0 p1 hT)
    rw [land_off l X of1 on tf pg acc1 t0 p0]
    have T0 := Lib.hid hT
    have HB0 := Lib.hid hB0
    clear hX hB0 hT hlc hM hac t0 t1 p0 p1 o0 o1
    generalize landD l X on tf pg acc1 3 [] = q at *
    obtain ⟨⟨hf, hm, ⟨hr, hw, hx, ha, hn, hs⟩, hl⟩, ⟨fk, fs, fl, fw, fp⟩, Q⟩ := q
    unfold LandN hitV fltV at HL
    simp only [List.nil_append] at HL
    go_enter Tryz.func19, Tryz.ntmps19
    go_upto_region 1 with fail
    have T1 := Lib.hid (((T0.out.alloc (.cells z9 40)).alloc (.cells z5 42)))
    have H1 := Lib.hid (((BoxAt.newAt (w) z9 40 (w.heap.size) (by first | omega | (simp; done) | (simp; omega))).alloc (.cells z5 42)))
    have F1 := Lib.hid ((BoxAt.newAt ((w).alloc (.cells z9 40)) z5 42 (w.heap.size + 1) (by first | omega | (simp; done) | (simp; omega))))
    have O1 := Lib.hid (((ON.out.alloc (.cells z9 40)).alloc (.cells z5 42)))
    have B1 := Lib.hid ((bel_alloc (bel_alloc HB0.out (.cells z9 40)) (.cells z5 42)))
    have K1 := Lib.hid (((K0.out.alloc (.cells z9 40)).alloc (.cells z5 42)))
    obtain ⟨g1, hg1⟩ : ∃ g1, g1 = w.heap.size := ⟨_, rfl⟩
    obtain ⟨W1, hW1⟩ : ∃ W1, W1 = ((w).alloc (.cells z9 40)).alloc (.cells z5 42) := ⟨_, rfl⟩
    have hs1 : g1 + 1 + 1 ≤ W1.heap.size := by rw [hW1, hg1]; simp
    rw [← hW1] at T1 H1 F1 O1 B1 K1 ⊢
    have hb1 : w.heap.size ≤ g1 := by omega
    rw [← hg1] at H1 F1 ⊢
    clear hg1
    clear hW1 T0 ON HB0 K0
    have Tc5 := T1.out.get 5 (.bool false) rfl
    go_wp2_with fail
    refine (HL.out _ B1.out (by first | omega | (simp; done) | (simp; omega)) (OwnI.nil _ _) T1.out).mono ?_
    rintro e w2 ⟨f2, c2, rfl, qT2, qO2, qW2⟩
    have hz2 := qW2.size
    have T2 := Lib.hid (show BoxAt w2 (tb) #[.slice f l c, .bool on, .int .i64 tf, .int .i64 tg, .slice f2 Q.length c2, .bool false, .int .i64 of1, .int .i64 og1, .int .i64 pg, .int .i64 acc1, .int .i64 pg, .int .i64 3] 58 from qT2)
    have H2 := Lib.hid ((qW2.box H1.out (by decide) (show g1 ≠ tb by omega)))
    have F2 := Lib.hid ((qW2.box F1.out (by decide) (show g1 + 1 ≠ tb by omega)))
    have O2 := Lib.hid (show OwnI w2 (B) (.slice f2 Q.length c2) (Q) from qO2)
    have B2 := Lib.hid ((qW2.under B1.out (by first | omega | (simp; done) | (simp; omega)) (show w0.heap.size ≤ tb by omega) (show w0.heap.size ≤ B by omega)))
    have K2 := Lib.hid ((K1.out.trans qW2))
    skip
    have hs2 : g1 + 1 + 1 ≤ w2.heap.size := by omega
    clear Tc5
    clear T1 H1 F1 O1 B1 K1 hs1 qT2 qO2 qW2 hz2
    go_wp2_with (first | (refine wpList_storeB rfl 40 _ _ rfl (g1) #[.int .i64 hf, .int .i64 hm, .bool hr, .bool hw, .bool hx, .bool ha, .bool hn, .int .i64 hs, .int .i64 hl] _ 40 rfl rfl (by kernel_rfl) (by rfl) (by simp [Value.oneCell']) H2.out ?_) | (refine wpList_storeB rfl 42 _ _ rfl (g1 + 1) #[.int .i64 fk, .int .i64 fs, .int .i64 fl, .bool fw, .int .i64 fp] _ 42 rfl rfl (by kernel_rfl) (by rfl) (by simp [Value.oneCell']) (F2.out.row (cs' := #[.int .i64 hf, .int .i64 hm, .bool hr, .bool hw, .bool hx, .bool ha, .bool hn, .int .i64 hs, .int .i64 hl]) (show g1 + 1 ≠ g1 by omega)) ?_))
    have RH := ((H2.out.put (cs' := #[.int .i64 hf, .int .i64 hm, .bool hr, .bool hw, .bool hx, .bool ha, .bool hn, .int .i64 hs, .int .i64 hl])).row (cs' := #[.int .i64 fk, .int .i64 fs, .int .i64 fl, .bool fw, .int .i64 fp]) (show g1 ≠ g1 + 1 by omega))
    have RF := ((F2.out.row (cs' := #[.int .i64 hf, .int .i64 hm, .bool hr, .bool hw, .bool hx, .bool ha, .bool hn, .int .i64 hs, .int .i64 hl]) (show g1 + 1 ≠ g1 by omega)).put (cs' := #[.int .i64 fk, .int .i64 fs, .int .i64 fl, .bool fw, .int .i64 fp]))
    refine bodyPost_ret (v := .tuple #[.agg #[.int .i64 hf, .int .i64 hm, .bool hr, .bool hw, .bool hx, .bool ha, .bool hn, .int .i64 hs, .int .i64 hl], .agg #[.int .i64 fk, .int .i64 fs, .int .i64 fl, .bool fw, .int .i64 fp]]) (by simp [results, Tryz.results19, go_sem, RH.get 0 (.int .i64 hf) rfl, RH.get 1 (.int .i64 hm) rfl, RH.get 2 (.bool hr) rfl, RH.get 3 (.bool hw) rfl, RH.get 4 (.bool hx) rfl, RH.get 5 (.bool ha) rfl, RH.get 6 (.bool hn) rfl, RH.get 7 (.int .i64 hs) rfl, RH.get 8 (.int .i64 hl) rfl, RF.get 0 (.int .i64 fk) rfl, RF.get 1 (.int .i64 fs) rfl, RF.get 2 (.int .i64 fl) rfl, RF.get 3 (.bool fw) rfl, RF.get 4 (.int .i64 fp) rfl]) rfl ?_
    exact ⟨f2, c2, pg, 3, rfl, ((T2.out.row (cs' := #[.int .i64 hf, .int .i64 hm, .bool hr, .bool hw, .bool hx, .bool ha, .bool hn, .int .i64 hs, .int .i64 hl]) (show tb ≠ g1 by omega)).row (cs' := #[.int .i64 fk, .int .i64 fs, .int .i64 fl, .bool fw, .int .i64 fp]) (show tb ≠ g1 + 1 by omega)), ((O2.out.rowN (cs := #[.int .i64 hf, .int .i64 hm, .bool hr, .bool hw, .bool hx, .bool ha, .bool hn, .int .i64 hs, .int .i64 hl]) (O2.out.ne_box H2.out (by decide))).rowN (cs := #[.int .i64 fk, .int .i64 fs, .int .i64 fl, .bool fw, .int .i64 fp]) (O2.out.ne_box F2.out (by decide))), ((K2.out.row (g1) #[.int .i64 hf, .int .i64 hm, .bool hr, .bool hw, .bool hx, .bool ha, .bool hn, .int .i64 hs, .int .i64 hl] (show w.heap.size ≤ g1 by omega)).row (g1 + 1) #[.int .i64 fk, .int .i64 fs, .int .i64 fl, .bool fw, .int .i64 fp] (show w.heap.size ≤ g1 + 1 by omega))⟩
  · rw [if_pos rfl, if_pos rfl] at hT
    have HL := Lib.hid (fun W hB0 hBw hT => nfollow_any f l c X on tf tg true of1 og1 pg acc1 tb B w0 W hac hX hlc hM t0 t1 hB0 h0 hBw htB p0 p1 o0 o1 hT)
    have hq : transD l X true of1 on tf pg acc1 = transS (fun m a => midD l X on tf m a) (fun lv f => tblD X 1 lv f pg) pg acc1 4 0 of1 [] := by
      unfold transD
      rw [if_neg (by decide)]
    rw [hq]
    clear hq
    have T0 := Lib.hid hT
    have HB0 := Lib.hid hB0
    clear hX hB0 hT hlc hM hac t0 t1 p0 p1 o0 o1
    generalize transS (fun m a => midD l X on tf m a) (fun lv f => tblD X 1 lv f pg) pg acc1 4 0 of1 [] = q at *
    obtain ⟨⟨hf, hm, ⟨hr, hw, hx, ha, hn, hs⟩, hl⟩, ⟨fk, fs, fl, fw, fp⟩, Q⟩ := q
    unfold TripN hitV fltV at HL
    simp only [List.nil_append] at HL
    go_enter Tryz.func19, Tryz.ntmps19
    go_upto_region 1 with fail
    have T1 := Lib.hid (((T0.out.alloc (.cells z9 40)).alloc (.cells z5 42)))
    have H1 := Lib.hid (((BoxAt.newAt (w) z9 40 (w.heap.size) (by first | omega | (simp; done) | (simp; omega))).alloc (.cells z5 42)))
    have F1 := Lib.hid ((BoxAt.newAt ((w).alloc (.cells z9 40)) z5 42 (w.heap.size + 1) (by first | omega | (simp; done) | (simp; omega))))
    have O1 := Lib.hid (((ON.out.alloc (.cells z9 40)).alloc (.cells z5 42)))
    have B1 := Lib.hid ((bel_alloc (bel_alloc HB0.out (.cells z9 40)) (.cells z5 42)))
    have K1 := Lib.hid (((K0.out.alloc (.cells z9 40)).alloc (.cells z5 42)))
    obtain ⟨g1, hg1⟩ : ∃ g1, g1 = w.heap.size := ⟨_, rfl⟩
    obtain ⟨W1, hW1⟩ : ∃ W1, W1 = ((w).alloc (.cells z9 40)).alloc (.cells z5 42) := ⟨_, rfl⟩
    have hs1 : g1 + 1 + 1 ≤ W1.heap.size := by rw [hW1, hg1]; simp
    rw [← hW1] at T1 H1 F1 O1 B1 K1 ⊢
    have hb1 : w.heap.size ≤ g1 := by omega
    rw [← hg1] at H1 F1 ⊢
    clear hg1
    clear hW1 T0 ON HB0 K0
    have Tc5 := T1.out.get 5 (.bool true) rfl
    go_wp2_with fail
    refine (HL.out _ B1.out (by first | omega | (simp; done) | (simp; omega)) T1.out).mono ?_
    rintro e w2 ⟨f2, c2, u2, v2, rfl, qT2, qO2, qW2⟩
    have hz2 := qW2.size
    have T2 := Lib.hid (show BoxAt w2 (tb) #[.slice f l c, .bool on, .int .i64 tf, .int .i64 tg, .slice f2 Q.length c2, .bool true, .int .i64 of1, .int .i64 og1, .int .i64 pg, .int .i64 acc1, .int .i64 u2, .int .i64 v2] 58 from qT2)
    have H2 := Lib.hid ((qW2.box H1.out (by decide) (show g1 ≠ tb by omega)))
    have F2 := Lib.hid ((qW2.box F1.out (by decide) (show g1 + 1 ≠ tb by omega)))
    have O2 := Lib.hid (show OwnI w2 (B) (.slice f2 Q.length c2) (Q) from qO2)
    have B2 := Lib.hid ((qW2.under B1.out (by first | omega | (simp; done) | (simp; omega)) (show w0.heap.size ≤ tb by omega) (show w0.heap.size ≤ B by omega)))
    have K2 := Lib.hid ((K1.out.trans qW2))
    skip
    have hs2 : g1 + 1 + 1 ≤ w2.heap.size := by omega
    clear Tc5
    clear T1 H1 F1 O1 B1 K1 hs1 qT2 qO2 qW2 hz2
    go_wp2_with (first | (refine wpList_storeB rfl 40 _ _ rfl (g1) #[.int .i64 hf, .int .i64 hm, .bool hr, .bool hw, .bool hx, .bool ha, .bool hn, .int .i64 hs, .int .i64 hl] _ 40 rfl rfl (by kernel_rfl) (by rfl) (by simp [Value.oneCell']) H2.out ?_) | (refine wpList_storeB rfl 42 _ _ rfl (g1 + 1) #[.int .i64 fk, .int .i64 fs, .int .i64 fl, .bool fw, .int .i64 fp] _ 42 rfl rfl (by kernel_rfl) (by rfl) (by simp [Value.oneCell']) (F2.out.row (cs' := #[.int .i64 hf, .int .i64 hm, .bool hr, .bool hw, .bool hx, .bool ha, .bool hn, .int .i64 hs, .int .i64 hl]) (show g1 + 1 ≠ g1 by omega)) ?_))
    have RH := ((H2.out.put (cs' := #[.int .i64 hf, .int .i64 hm, .bool hr, .bool hw, .bool hx, .bool ha, .bool hn, .int .i64 hs, .int .i64 hl])).row (cs' := #[.int .i64 fk, .int .i64 fs, .int .i64 fl, .bool fw, .int .i64 fp]) (show g1 ≠ g1 + 1 by omega))
    have RF := ((F2.out.row (cs' := #[.int .i64 hf, .int .i64 hm, .bool hr, .bool hw, .bool hx, .bool ha, .bool hn, .int .i64 hs, .int .i64 hl]) (show g1 + 1 ≠ g1 by omega)).put (cs' := #[.int .i64 fk, .int .i64 fs, .int .i64 fl, .bool fw, .int .i64 fp]))
    refine bodyPost_ret (v := .tuple #[.agg #[.int .i64 hf, .int .i64 hm, .bool hr, .bool hw, .bool hx, .bool ha, .bool hn, .int .i64 hs, .int .i64 hl], .agg #[.int .i64 fk, .int .i64 fs, .int .i64 fl, .bool fw, .int .i64 fp]]) (by simp [results, Tryz.results19, go_sem, RH.get 0 (.int .i64 hf) rfl, RH.get 1 (.int .i64 hm) rfl, RH.get 2 (.bool hr) rfl, RH.get 3 (.bool hw) rfl, RH.get 4 (.bool hx) rfl, RH.get 5 (.bool ha) rfl, RH.get 6 (.bool hn) rfl, RH.get 7 (.int .i64 hs) rfl, RH.get 8 (.int .i64 hl) rfl, RF.get 0 (.int .i64 fk) rfl, RF.get 1 (.int .i64 fs) rfl, RF.get 2 (.int .i64 fl) rfl, RF.get 3 (.bool fw) rfl, RF.get 4 (.int .i64 fp) rfl]) rfl ?_
    exact ⟨f2, c2, u2, v2, rfl, ((T2.out.row (cs' := #[.int .i64 hf, .int .i64 hm, .bool hr, .bool hw, .bool hx, .bool ha, .bool hn, .int .i64 hs, .int .i64 hl]) (show tb ≠ g1 by omega)).row (cs' := #[.int .i64 fk, .int .i64 fs, .int .i64 fl, .bool fw, .int .i64 fp]) (show tb ≠ g1 + 1 by omega)), ((O2.out.rowN (cs := #[.int .i64 hf, .int .i64 hm, .bool hr, .bool hw, .bool hx, .bool ha, .bool hn, .int .i64 hs, .int .i64 hl]) (O2.out.ne_box H2.out (by decide))).rowN (cs := #[.int .i64 fk, .int .i64 fs, .int .i64 fl, .bool fw, .int .i64 fp]) (O2.out.ne_box F2.out (by decide))), ((K2.out.row (g1) #[.int .i64 hf, .int .i64 hm, .bool hr, .bool hw, .bool hx, .bool ha, .bool hn, .int .i64 hs, .int .i64 hl] (show w.heap.size ≤ g1 by omega)).row (g1 + 1) #[.int .i64 fk, .int .i64 fs, .int .i64 fl, .bool fw, .int .i64 fp] (show w.heap.size ≤ g1 + 1 by omega))⟩
set_option maxRecDepth 100000 in
set_option maxHeartbeats 3200000 in
theorem transC : TransC := by
  intro f l c X on1 of1 og1 on tf tg pg acc1 w hl hlc hX
  have htw : w.heap.size ≤ w.heap.size := Nat.le_refl _
  have B0 := Lib.hid (Below.refl w.heap.size w)
  have HTO := Lib.hid (fun W => ntripOf_any f l c on tf tg on1 of1 og1 pg acc1 W)
  obtain ⟨cu, hcu⟩ : ∃ cu, cu = if on1 = true then of1 else pg := ⟨_, rfl⟩
  obtain ⟨lw, hlw⟩ : ∃ lw : Int, lw = if on1 = true then 0 else 3 := ⟨_, rfl⟩
  rw [← hcu, ← hlw] at HTO
  cases hA : (mayN l tf pg acc1 && numB of1 4095)
  · rw [transA_no hA]
    have HA := Lib.hid hA
    clear hA
    unfold Walk4End
    simp only [hit0, flt0, atr0, List.length_nil]
    unfold hitV fltV
    simp only
    clear hX hl hlc hcu hlw
    go_enter Tryz.func8, Tryz.ntmps8
    go_upto_region 1 with fail
    have M1 := Lib.hid ((((((BoxAt.newAt (w) #[.slice f l c] 24 (w.heap.size) (by first | omega | (simp; done) | (simp; omega))).alloc (.cells #[.bool on1, .int .i64 of1, .int .i64 og1] 29)).alloc (.cells #[.bool on, .int .i64 tf, .int .i64 tg] 29)).alloc (.cells z9 40)).alloc (.cells z5 42)))
    have U1 := Lib.hid (((((BoxAt.newAt ((w).alloc (.cells #[.slice f l c] 24)) #[.bool on1, .int .i64 of1, .int .i64 og1] 29 (w.heap.size + 1) (by first | omega | (simp; done) | (simp; omega))).alloc (.cells #[.bool on, .int .i64 tf, .int .i64 tg] 29)).alloc (.cells z9 40)).alloc (.cells z5 42)))
    have V1 := Lib.hid ((((BoxAt.newAt (((w).alloc (.cells #[.slice f l c] 24)).alloc (.cells #[.bool on1, .int .i64 of1, .int .i64 og1] 29)) #[.bool on, .int .i64 tf, .int .i64 tg] 29 (w.heap.size + 1 + 1) (by first | omega | (simp; done) | (simp; omega))).alloc (.cells z9 40)).alloc (.cells z5 42)))
    have H1 := Lib.hid (((BoxAt.newAt ((((w).alloc (.cells #[.slice f l c] 24)).alloc (.cells #[.bool on1, .int .i64 of1, .int .i64 og1] 29)).alloc (.cells #[.bool on, .int .i64 tf, .int .i64 tg] 29)) z9 40 (w.heap.size + 1 + 1 + 1) (by first | omega | (simp; done) | (simp; omega))).alloc (.cells z5 42)))
    have F1 := Lib.hid ((BoxAt.newAt (((((w).alloc (.cells #[.slice f l c] 24)).alloc (.cells #[.bool on1, .int .i64 of1, .int .i64 og1] 29)).alloc (.cells #[.bool on, .int .i64 tf, .int .i64 tg] 29)).alloc (.cells z9 40)) z5 42 (w.heap.size + 1 + 1 + 1 + 1) (by first | omega | (simp; done) | (simp; omega))))
    have B1 := Lib.hid ((bel_alloc (bel_alloc (bel_alloc (bel_alloc (bel_alloc B0.out (.cells #[.slice f l c] 24)) (.cells #[.bool on1, .int .i64 of1, .int .i64 og1] 29)) (.cells #[.bool on, .int .i64 tf, .int .i64 tg] 29)) (.cells z9 40)) (.cells z5 42)))
    obtain ⟨g1, hg1⟩ : ∃ g1, g1 = w.heap.size := ⟨_, rfl⟩
    obtain ⟨W1, hW1⟩ : ∃ W1, W1 = (((((w).alloc (.cells #[.slice f l c] 24)).alloc (.cells #[.bool on1, .int .i64 of1, .int .i64 og1] 29)).alloc (.cells #[.bool on, .int .i64 tf, .int .i64 tg] 29)).alloc (.cells z9 40)).alloc (.cells z5 42) := ⟨_, rfl⟩
    have hs1 : g1 + 1 + 1 + 1 + 1 + 1 ≤ W1.heap.size := by rw [hW1, hg1]; simp
    rw [← hW1] at M1 U1 V1 H1 F1 B1 ⊢
    have hb1 : w.heap.size ≤ g1 := by omega
    rw [← hg1] at M1 U1 V1 H1 F1 ⊢
    clear hg1
    clear hW1 B0
    have Mc0 := M1.out.get 0 (.slice f l c) rfl
    have Vc0 := V1.out.get 0 (.bool on) rfl
    have Vc1 := V1.out.get 1 (.int .i64 tf) rfl
    have Vc2 := V1.out.get 2 (.int .i64 tg) rfl
    have Uc0 := U1.out.get 0 (.bool on1) rfl
    have Uc1 := U1.out.get 1 (.int .i64 of1) rfl
    have Uc2 := U1.out.get 2 (.int .i64 og1) rfl
    go_wp2_with fail
    refine (HTO.out _).mono ?_
    rintro e w2 ⟨rfl, hb2⟩
    have hz2 := hb2.size
    have M2 := Lib.hid (M1.out.below hb2)
    have U2 := Lib.hid (U1.out.below hb2)
    have V2 := Lib.hid (V1.out.below hb2)
    have H2 := Lib.hid (H1.out.below hb2)
    have F2 := Lib.hid (F1.out.below hb2)
    have B2 := Lib.hid (bel_trans B1.out hb2)
    skip
    have hs2 : g1 + 1 + 1 + 1 + 1 + 1 ≤ w2.heap.size := by omega
    clear Mc0 Vc0 Vc1 Vc2 Uc0 Uc1 Uc2
    clear M1 U1 V1 H1 F1 B1 hs1 hb2 hz2
    go_upto_region 2 with fail
    have M3 := Lib.hid ((M2.out.alloc (.cells #[.slice f l c, .bool on, .int .i64 tf, .int .i64 tg, .slice none 0 0, .bool on1, .int .i64 of1, .int .i64 og1, .int .i64 pg, .int .i64 acc1, .int .i64 cu, .int .i64 lw] 58)))
    have U3 := Lib.hid ((U2.out.alloc (.cells #[.slice f l c, .bool on, .int .i64 tf, .int .i64 tg, .slice none 0 0, .bool on1, .int .i64 of1, .int .i64 og1, .int .i64 pg, .int .i64 acc1, .int .i64 cu, .int .i64 lw] 58)))
    have V3 := Lib.hid ((V2.out.alloc (.cells #[.slice f l c, .bool on, .int .i64 tf, .int .i64 tg, .slice none 0 0, .bool on1, .int .i64 of1, .int .i64 og1, .int .i64 pg, .int .i64 acc1, .int .i64 cu, .int .i64 lw] 58)))
    have H3 := Lib.hid ((H2.out.alloc (.cells #[.slice f l c, .bool on, .int .i64 tf, .int .i64 tg, .slice none 0 0, .bool on1, .int .i64 of1, .int .i64 og1, .int .i64 pg, .int .i64 acc1, .int .i64 cu, .int .i64 lw] 58)))
    have F3 := Lib.hid ((F2.out.alloc (.cells #[.slice f l c, .bool on, .int .i64 tf, .int .i64 tg, .slice none 0 0, .bool on1, .int .i64 of1, .int .i64 og1, .int .i64 pg, .int .i64 acc1, .int .i64 cu, .int .i64 lw] 58)))
    have T3 := Lib.hid ((BoxAt.newAt (w2) #[.slice f l c, .bool on, .int .i64 tf, .int .i64 tg, .slice none 0 0, .bool on1, .int .i64 of1, .int .i64 og1, .int .i64 pg, .int .i64 acc1, .int .i64 cu, .int .i64 lw] 58 (w2.heap.size) (by first | omega | (simp; done) | (simp; omega))))
    have B3 := Lib.hid ((bel_alloc B2.out (.cells #[.slice f l c, .bool on, .int .i64 tf, .int .i64 tg, .slice none 0 0, .bool on1, .int .i64 of1, .int .i64 og1, .int .i64 pg, .int .i64 acc1, .int .i64 cu, .int .i64 lw] 58)))
    obtain ⟨g3, hg3⟩ : ∃ g3, g3 = w2.heap.size := ⟨_, rfl⟩
    obtain ⟨W3, hW3⟩ : ∃ W3, W3 = (w2).alloc (.cells #[.slice f l c, .bool on, .int .i64 tf, .int .i64 tg, .slice none 0 0, .bool on1, .int .i64 of1, .int .i64 og1, .int .i64 pg, .int .i64 acc1, .int .i64 cu, .int .i64 lw] 58) := ⟨_, rfl⟩
    have hs3 : g3 + 1 ≤ W3.heap.size := by rw [hW3, hg3]; simp
    rw [← hW3] at M3 U3 V3 H3 F3 T3 B3 ⊢
    have hb3 : g1 + 1 + 1 + 1 + 1 + 1 ≤ g3 := by omega
    rw [← hg3] at T3 ⊢
    clear hg3
    clear hW3 M2 U2 V2 H2 F2 B2 hs2
    go_wp2_with fail
    refine (nbegin_any f l c on tf tg on1 of1 og1 pg acc1 _ _ _ (g3) _ T3.out).mono ?_
    rintro e w4 ⟨rfl, hb4⟩
    have hz4 := hb4.size
    have M4 := Lib.hid (M3.out.below hb4)
    have U4 := Lib.hid (U3.out.below hb4)
    have V4 := Lib.hid (V3.out.below hb4)
    have H4 := Lib.hid (H3.out.below hb4)
    have F4 := Lib.hid (F3.out.below hb4)
    have T4 := Lib.hid (T3.out.below hb4)
    have B4 := Lib.hid (bel_trans B3.out hb4)
    skip
    have hs4 : g3 + 1 ≤ w4.heap.size := by omega
    clear M3 U3 V3 H3 F3 T3 B3 hs3 hb4 hz4
    rw [HA.out]
    go_wp2_with (first | (refine wpList_storeB rfl 40 _ _ rfl (g1 + 1 + 1 + 1) #[.int .i64 0, .int .i64 0, .bool false, .bool false, .bool false, .bool false, .bool false, .int .i64 0, .int .i64 0] _ 40 rfl rfl (by kernel_rfl) (by rfl) (by simp [Value.oneCell']) H4.out ?_) | (refine wpList_storeB rfl 42 _ _ rfl (g1 + 1 + 1 + 1 + 1) #[.int .i64 0, .int .i64 0, .int .i64 0, .bool false, .int .i64 0] _ 42 rfl rfl (by kernel_rfl) (by rfl) (by simp [Value.oneCell']) (F4.out.row (cs' := #[.int .i64 0, .int .i64 0, .bool false, .bool false, .bool false, .bool false, .bool false, .int .i64 0, .int .i64 0]) (show g1 + 1 + 1 + 1 + 1 ≠ g1 + 1 + 1 + 1 by omega)) ?_))
    have RH := ((H4.out.put (cs' := #[.int .i64 0, .int .i64 0, .bool false, .bool false, .bool false, .bool false, .bool false, .int .i64 0, .int .i64 0])).row (cs' := #[.int .i64 0, .int .i64 0, .int .i64 0, .bool false, .int .i64 0]) (show g1 + 1 + 1 + 1 ≠ g1 + 1 + 1 + 1 + 1 by omega))
    have RF := ((F4.out.row (cs' := #[.int .i64 0, .int .i64 0, .bool false, .bool false, .bool false, .bool false, .bool false, .int .i64 0, .int .i64 0]) (show g1 + 1 + 1 + 1 + 1 ≠ g1 + 1 + 1 + 1 by omega)).put (cs' := #[.int .i64 0, .int .i64 0, .int .i64 0, .bool false, .int .i64 0]))
    refine bodyPost_ret (v := .tuple #[.agg #[.int .i64 0, .int .i64 0, .bool false, .bool false, .bool false, .bool false, .bool false, .int .i64 0, .int .i64 0], .agg #[.int .i64 0, .int .i64 0, .int .i64 0, .bool false, .int .i64 0], .slice none 0 0, .int .i64 1]) (by simp [results, Tryz.results8, go_sem, RH.get 0 (.int .i64 0) rfl, RH.get 1 (.int .i64 0) rfl, RH.get 2 (.bool false) rfl, RH.get 3 (.bool false) rfl, RH.get 4 (.bool false) rfl, RH.get 5 (.bool false) rfl, RH.get 6 (.bool false) rfl, RH.get 7 (.int .i64 0) rfl, RH.get 8 (.int .i64 0) rfl, RF.get 0 (.int .i64 0) rfl, RF.get 1 (.int .i64 0) rfl, RF.get 2 (.int .i64 0) rfl, RF.get 3 (.bool false) rfl, RF.get 4 (.int .i64 0) rfl]) rfl ?_
    exact ⟨none, 0, rfl, OwnI.nil _ _, (Below.rowB (g := g1 + 1 + 1 + 1 + 1) (Below.rowB (g := g1 + 1 + 1 + 1) B4.out (cs := #[.int .i64 0, .int .i64 0, .bool false, .bool false, .bool false, .bool false, .bool false, .int .i64 0, .int .i64 0]) (show w.heap.size ≤ g1 + 1 + 1 + 1 by omega)) (cs := #[.int .i64 0, .int .i64 0, .int .i64 0, .bool false, .int .i64 0]) (show w.heap.size ≤ g1 + 1 + 1 + 1 + 1 by omega))⟩
  · rw [transA_yes hA]
    have hA2 := hA
    rw [Bool.and_eq_true] at hA2
    obtain ⟨hM, ⟨t0, t1⟩, ⟨p0, p1⟩, a0, a1⟩ := mayN_iff.1 hA2.1
    have ho := numB_iff.1 hA2.2
    have HA := Lib.hid hA
    clear hA
    have HRC := Lib.hid (fun tb B W hB0 h0 hBw htB hT => nend_any f l c X on tf tg on1 of1 og1 pg acc1 tb B w W (numB_iff.2 ⟨a0, a1⟩) hX hlc hM t0 t1 hB0 h0 hBw htB p0 p1 ho.1 ho.2 hT)
    rw [← hcu, ← hlw] at HRC
    clear hX hl hlc hM t0 t1 p0 p1 a0 a1 ho hA2 hcu hlw
    generalize transD l X on1 of1 on tf pg acc1 = q at *
    obtain ⟨⟨hf, hm, ⟨hr, hw, hx, ha, hn, hs⟩, hl⟩, ⟨fk, fs, fl, fw, fp⟩, Q⟩ := q
    unfold Walk4End hitV fltV
    simp only
    go_enter Tryz.func8, Tryz.ntmps8
    go_upto_region 1 with fail
    have M1 := Lib.hid ((((((BoxAt.newAt (w) #[.slice f l c] 24 (w.heap.size) (by first | omega | (simp; done) | (simp; omega))).alloc (.cells #[.bool on1, .int .i64 of1, .int .i64 og1] 29)).alloc (.cells #[.bool on, .int .i64 tf, .int .i64 tg] 29)).alloc (.cells z9 40)).alloc (.cells z5 42)))
    have U1 := Lib.hid (((((BoxAt.newAt ((w).alloc (.cells #[.slice f l c] 24)) #[.bool on1, .int .i64 of1, .int .i64 og1] 29 (w.heap.size + 1) (by first | omega | (simp; done) | (simp; omega))).alloc (.cells #[.bool on, .int .i64 tf, .int .i64 tg] 29)).alloc (.cells z9 40)).alloc (.cells z5 42)))
    have V1 := Lib.hid ((((BoxAt.newAt (((w).alloc (.cells #[.slice f l c] 24)).alloc (.cells #[.bool on1, .int .i64 of1, .int .i64 og1] 29)) #[.bool on, .int .i64 tf, .int .i64 tg] 29 (w.heap.size + 1 + 1) (by first | omega | (simp; done) | (simp; omega))).alloc (.cells z9 40)).alloc (.cells z5 42)))
    have H1 := Lib.hid (((BoxAt.newAt ((((w).alloc (.cells #[.slice f l c] 24)).alloc (.cells #[.bool on1, .int .i64 of1, .int .i64 og1] 29)).alloc (.cells #[.bool on, .int .i64 tf, .int .i64 tg] 29)) z9 40 (w.heap.size + 1 + 1 + 1) (by first | omega | (simp; done) | (simp; omega))).alloc (.cells z5 42)))
    have F1 := Lib.hid ((BoxAt.newAt (((((w).alloc (.cells #[.slice f l c] 24)).alloc (.cells #[.bool on1, .int .i64 of1, .int .i64 og1] 29)).alloc (.cells #[.bool on, .int .i64 tf, .int .i64 tg] 29)).alloc (.cells z9 40)) z5 42 (w.heap.size + 1 + 1 + 1 + 1) (by first | omega | (simp; done) | (simp; omega))))
    have B1 := Lib.hid ((bel_alloc (bel_alloc (bel_alloc (bel_alloc (bel_alloc B0.out (.cells #[.slice f l c] 24)) (.cells #[.bool on1, .int .i64 of1, .int .i64 og1] 29)) (.cells #[.bool on, .int .i64 tf, .int .i64 tg] 29)) (.cells z9 40)) (.cells z5 42)))
    obtain ⟨g1, hg1⟩ : ∃ g1, g1 = w.heap.size := ⟨_, rfl⟩
    obtain ⟨W1, hW1⟩ : ∃ W1, W1 = (((((w).alloc (.cells #[.slice f l c] 24)).alloc (.cells #[.bool on1, .int .i64 of1, .int .i64 og1] 29)).alloc (.cells #[.bool on, .int .i64 tf, .int .i64 tg] 29)).alloc (.cells z9 40)).alloc (.cells z5 42) := ⟨_, rfl⟩
    have hs1 : g1 + 1 + 1 + 1 + 1 + 1 ≤ W1.heap.size := by rw [hW1, hg1]; simp
    rw [← hW1] at M1 U1 V1 H1 F1 B1 ⊢
    have hb1 : w.heap.size ≤ g1 := by omega
    rw [← hg1] at M1 U1 V1 H1 F1 ⊢
    clear hg1
    clear hW1 B0
    have Mc0 := M1.out.get 0 (.slice f l c) rfl
    have Vc0 := V1.out.get 0 (.bool on) rfl
    have Vc1 := V1.out.get 1 (.int .i64 tf) rfl
    have Vc2 := V1.out.get 2 (.int .i64 tg) rfl
    have Uc0 := U1.out.get 0 (.bool on1) rfl
    have Uc1 := U1.out.get 1 (.int .i64 of1) rfl
    have Uc2 := U1.out.get 2 (.int .i64 og1) rfl
    go_wp2_with fail
    refine (HTO.out _).mono ?_
    rintro e w2 ⟨rfl, hb2⟩
    have hz2 := hb2.size
    have M2 := Lib.hid (M1.out.below hb2)
    have U2 := Lib.hid (U1.out.below hb2)
    have V2 := Lib.hid (V1.out.below hb2)
    have H2 := Lib.hid (H1.out.below hb2)
    have F2 := Lib.hid (F1.out.below hb2)
    have B2 := Lib.hid (bel_trans B1.out hb2)
    skip
    have hs2 : g1 + 1 + 1 + 1 + 1 + 1 ≤ w2.heap.size := by omega
    clear Mc0 Vc0 Vc1 Vc2 Uc0 Uc1 Uc2
    clear M1 U1 V1 H1 F1 B1 hs1 hb2 hz2
    go_upto_region 2 with fail
    have M3 := Lib.hid ((M2.out.alloc (.cells #[.slice f l c, .bool on, .int .i64 tf, .int .i64 tg, .slice none 0 0, .bool on1, .int .i64 of1, .int .i64 og1, .int .i64 pg, .int .i64 acc1, .int .i64 cu, .int .i64 lw] 58)))
    have U3 := Lib.hid ((U2.out.alloc (.cells #[.slice f l c, .bool on, .int .i64 tf, .int .i64 tg, .slice none 0 0, .bool on1, .int .i64 of1, .int .i64 og1, .int .i64 pg, .int .i64 acc1, .int .i64 cu, .int .i64 lw] 58)))
    have V3 := Lib.hid ((V2.out.alloc (.cells #[.slice f l c, .bool on, .int .i64 tf, .int .i64 tg, .slice none 0 0, .bool on1, .int .i64 of1, .int .i64 og1, .int .i64 pg, .int .i64 acc1, .int .i64 cu, .int .i64 lw] 58)))
    have H3 := Lib.hid ((H2.out.alloc (.cells #[.slice f l c, .bool on, .int .i64 tf, .int .i64 tg, .slice none 0 0, .bool on1, .int .i64 of1, .int .i64 og1, .int .i64 pg, .int .i64 acc1, .int .i64 cu, .int .i64 lw] 58)))
    have F3 := Lib.hid ((F2.out.alloc (.cells #[.slice f l c, .bool on, .int .i64 tf, .int .i64 tg, .slice none 0 0, .bool on1, .int .i64 of1, .int .i64 og1, .int .i64 pg, .int .i64 acc1, .int .i64 cu, .int .i64 lw] 58)))
    have T3 := Lib.hid ((BoxAt.newAt (w2) #[.slice f l c, .bool on, .int .i64 tf, .int .i64 tg, .slice none 0 0, .bool on1, .int .i64 of1, .int .i64 og1, .int .i64 pg, .int .i64 acc1, .int .i64 cu, .int .i64 lw] 58 (w2.heap.size) (by first | omega | (simp; done) | (simp; omega))))
    have B3 := Lib.hid ((bel_alloc B2.out (.cells #[.slice f l c, .bool on, .int .i64 tf, .int .i64 tg, .slice none 0 0, .bool on1, .int .i64 of1, .int .i64 og1, .int .i64 pg, .int .i64 acc1, .int .i64 cu, .int .i64 lw] 58)))
    obtain ⟨g3, hg3⟩ : ∃ g3, g3 = w2.heap.size := ⟨_, rfl⟩
    obtain ⟨W3, hW3⟩ : ∃ W3, W3 = (w2).alloc (.cells #[.slice f l c, .bool on, .int .i64 tf, .int .i64 tg, .slice none 0 0, .bool on1, .int .i64 of1, .int .i64 og1, .int .i64 pg, .int .i64 acc1, .int .i64 cu, .int .i64 lw] 58) := ⟨_, rfl⟩
    have hs3 : g3 + 1 ≤ W3.heap.size := by rw [hW3, hg3]; simp
    rw [← hW3] at M3 U3 V3 H3 F3 T3 B3 ⊢
    have hb3 : g1 + 1 + 1 + 1 + 1 + 1 ≤ g3 := by omega
    rw [← hg3] at T3 ⊢
    clear hg3
    clear hW3 M2 U2 V2 H2 F2 B2 hs2
    go_wp2_with fail
    refine (nbegin_any f l c on tf tg on1 of1 og1 pg acc1 _ _ _ (g3) _ T3.out).mono ?_
    rintro e w4 ⟨rfl, hb4⟩
    have hz4 := hb4.size
    have M4 := Lib.hid (M3.out.below hb4)
    have U4 := Lib.hid (U3.out.below hb4)
    have V4 := Lib.hid (V3.out.below hb4)
    have H4 := Lib.hid (H3.out.below hb4)
    have F4 := Lib.hid (F3.out.below hb4)
    have T4 := Lib.hid (T3.out.below hb4)
    have B4 := Lib.hid (bel_trans B3.out hb4)
    skip
    have hs4 : g3 + 1 ≤ w4.heap.size := by omega
    clear M3 U3 V3 H3 F3 T3 B3 hs3 hb4 hz4
    rw [HA.out]
    have HR := HRC.out (g3) (g3 + 1) _ B4.out (by first | omega | (simp; done) | (simp; omega)) (by first | omega | (simp; done) | (simp; omega)) (by first | omega | (simp; done) | (simp; omega)) T4.out
    unfold TripN hitV fltV at HR
    simp only [List.nil_append] at HR
    have HR := Lib.hid HR
    have ONIL := Lib.hid (OwnI.nil w4 (g3 + 1))
    go_wp2_with fail
    refine (HR.out).mono ?_
    rintro e w5 ⟨f5, c5, u5, v5, rfl, qT5, qO5, qW5⟩
    have hz5 := qW5.size
    have M5 := Lib.hid ((qW5.box M4.out (by decide) (show g1 ≠ g3 by omega)))
    have U5 := Lib.hid ((qW5.box U4.out (by decide) (show g1 + 1 ≠ g3 by omega)))
    have V5 := Lib.hid ((qW5.box V4.out (by decide) (show g1 + 1 + 1 ≠ g3 by omega)))
    have H5 := Lib.hid ((qW5.box H4.out (by decide) (show g1 + 1 + 1 + 1 ≠ g3 by omega)))
    have F5 := Lib.hid ((qW5.box F4.out (by decide) (show g1 + 1 + 1 + 1 + 1 ≠ g3 by omega)))
    have T5 := Lib.hid (show BoxAt w5 (g3) #[.slice f l c, .bool on, .int .i64 tf, .int .i64 tg, .slice f5 Q.length c5, .bool on1, .int .i64 of1, .int .i64 og1, .int .i64 pg, .int .i64 acc1, .int .i64 u5, .int .i64 v5] 58 from qT5)
    have O5 := Lib.hid (show OwnI w5 (g3 + 1) (.slice f5 Q.length c5) (Q) from qO5)
    have B5 := Lib.hid ((qW5.under B4.out (by first | omega | (simp; done) | (simp; omega)) (show w.heap.size ≤ g3 by omega) (show w.heap.size ≤ g3 + 1 by omega)))
    skip
    have hs5 : g3 + 1 ≤ w5.heap.size := by omega
    clear M4 U4 V4 H4 F4 T4 ONIL B4 hs4 qT5 qO5 qW5 HR hz5
    go_upto_region 5 with (first | (refine wpList_storeB rfl 40 _ _ rfl (g1 + 1 + 1 + 1) #[.int .i64 hf, .int .i64 hm, .bool hr, .bool hw, .bool hx, .bool ha, .bool hn, .int .i64 hs, .int .i64 hl] _ 40 rfl rfl (by kernel_rfl) (by rfl) (by simp [Value.oneCell']) H5.out ?_) | (refine wpList_storeB rfl 42 _ _ rfl (g1 + 1 + 1 + 1 + 1) #[.int .i64 fk, .int .i64 fs, .int .i64 fl, .bool fw, .int .i64 fp] _ 42 rfl rfl (by kernel_rfl) (by rfl) (by simp [Value.oneCell']) (F5.out.row (cs' := #[.int .i64 hf, .int .i64 hm, .bool hr, .bool hw, .bool hx, .bool ha, .bool hn, .int .i64 hs, .int .i64 hl]) (show g1 + 1 + 1 + 1 + 1 ≠ g1 + 1 + 1 + 1 by omega)) ?_))
    have M6 := Lib.hid (((M5.out.row (cs' := #[.int .i64 hf, .int .i64 hm, .bool hr, .bool hw, .bool hx, .bool ha, .bool hn, .int .i64 hs, .int .i64 hl]) (show g1 ≠ g1 + 1 + 1 + 1 by omega)).row (cs' := #[.int .i64 fk, .int .i64 fs, .int .i64 fl, .bool fw, .int .i64 fp]) (show g1 ≠ g1 + 1 + 1 + 1 + 1 by omega)))
    have U6 := Lib.hid (((U5.out.row (cs' := #[.int .i64 hf, .int .i64 hm, .bool hr, .bool hw, .bool hx, .bool ha, .bool hn, .int .i64 hs, .int .i64 hl]) (show g1 + 1 ≠ g1 + 1 + 1 + 1 by omega)).row (cs' := #[.int .i64 fk, .int .i64 fs, .int .i64 fl, .bool fw, .int .i64 fp]) (show g1 + 1 ≠ g1 + 1 + 1 + 1 + 1 by omega)))
    have V6 := Lib.hid (((V5.out.row (cs' := #[.int .i64 hf, .int .i64 hm, .bool hr, .bool hw, .bool hx, .bool ha, .bool hn, .int .i64 hs, .int .i64 hl]) (show g1 + 1 + 1 ≠ g1 + 1 + 1 + 1 by omega)).row (cs' := #[.int .i64 fk, .int .i64 fs, .int .i64 fl, .bool fw, .int .i64 fp]) (show g1 + 1 + 1 ≠ g1 + 1 + 1 + 1 + 1 by omega)))
    have H6 := Lib.hid (((H5.out.put (cs' := #[.int .i64 hf, .int .i64 hm, .bool hr, .bool hw, .bool hx, .bool ha, .bool hn, .int .i64 hs, .int .i64 hl])).row (cs' := #[.int .i64 fk, .int .i64 fs, .int .i64 fl, .bool fw, .int .i64 fp]) (show g1 + 1 + 1 + 1 ≠ g1 + 1 + 1 + 1 + 1 by omega)))
    have F6 := Lib.hid (((F5.out.row (cs' := #[.int .i64 hf, .int .i64 hm, .bool hr, .bool hw, .bool hx, .bool ha, .bool hn, .int .i64 hs, .int .i64 hl]) (show g1 + 1 + 1 + 1 + 1 ≠ g1 + 1 + 1 + 1 by omega)).put (cs' := #[.int .i64 fk, .int .i64 fs, .int .i64 fl, .bool fw, .int .i64 fp])))
    have T6 := Lib.hid (((T5.out.row (cs' := #[.int .i64 hf, .int .i64 hm, .bool hr, .bool hw, .bool hx, .bool ha, .bool hn, .int .i64 hs, .int .i64 hl]) (show g3 ≠ g1 + 1 + 1 + 1 by omega)).row (cs' := #[.int .i64 fk, .int .i64 fs, .int .i64 fl, .bool fw, .int .i64 fp]) (show g3 ≠ g1 + 1 + 1 + 1 + 1 by omega)))
    have O6 := Lib.hid (((O5.out.rowN (cs := #[.int .i64 hf, .int .i64 hm, .bool hr, .bool hw, .bool hx, .bool ha, .bool hn, .int .i64 hs, .int .i64 hl]) (O5.out.ne_box H5.out (by decide))).rowN (cs := #[.int .i64 fk, .int .i64 fs, .int .i64 fl, .bool fw, .int .i64 fp]) (O5.out.ne_box F5.out (by decide))))
    have B6 := Lib.hid ((Below.rowB (g := g1 + 1 + 1 + 1 + 1) (Below.rowB (g := g1 + 1 + 1 + 1) B5.out (cs := #[.int .i64 hf, .int .i64 hm, .bool hr, .bool hw, .bool hx, .bool ha, .bool hn, .int .i64 hs, .int .i64 hl]) (show w.heap.size ≤ g1 + 1 + 1 + 1 by omega)) (cs := #[.int .i64 fk, .int .i64 fs, .int .i64 fl, .bool fw, .int .i64 fp]) (show w.heap.size ≤ g1 + 1 + 1 + 1 + 1 by omega)))
    obtain ⟨W6, hW6⟩ : ∃ W6, W6 = ((w5).setRow (g1 + 1 + 1 + 1) #[.int .i64 hf, .int .i64 hm, .bool hr, .bool hw, .bool hx, .bool ha, .bool hn, .int .i64 hs, .int .i64 hl]).setRow (g1 + 1 + 1 + 1 + 1) #[.int .i64 fk, .int .i64 fs, .int .i64 fl, .bool fw, .int .i64 fp] := ⟨_, rfl⟩
    have hs6 : g3 + 1 ≤ W6.heap.size := by rw [hW6]; first | exact hs5 | (simp; omega)
    rw [← hW6] at M6 U6 V6 H6 F6 T6 O6 B6 ⊢
    clear hW6 M5 U5 V5 H5 F5 T5 O5 B5 hs5
    refine wp_region_held_drew (S := (fun w' => BoxAt w' (g1 + 1 + 1 + 1) #[.int .i64 hf, .int .i64 hm, .bool hr, .bool hw, .bool hx, .bool ha, .bool hn, .int .i64 hs, .int .i64 hl] 40 ∧ BoxAt w' (g1 + 1 + 1 + 1 + 1) #[.int .i64 fk, .int .i64 fs, .int .i64 fl, .bool fw, .int .i64 fp] 42 ∧ BoxAt w' (g3) #[.slice f l c, .bool on, .int .i64 tf, .int .i64 tg, .slice f5 Q.length c5, .bool on1, .int .i64 of1, .int .i64 og1, .int .i64 pg, .int .i64 acc1, .int .i64 u5, .int .i64 v5] 58)) (by kernel_rfl) ⟨H6.out.drew, F6.out.drew, T6.out.drew⟩ (fun hS => ?_)
    refine tkR 0 30 (v := .agg #[.int .i64 hf, .int .i64 hm, .bool hr, .bool hw, .bool hx, .bool ha, .bool hn, .int .i64 hs, .int .i64 hl]) rfl hS (fun _ h => run_ldN 40 (.tmp 10) (g1 + 1 + 1 + 1) 0 (by kernel_rfl) (by kernel_rfl) Tryz.underlying40 rfl (by kernel_rfl) ((h.1).sub 0 _ rfl)) ?_
    refine tkR 1 31 (v := .agg #[.int .i64 fk, .int .i64 fs, .int .i64 fl, .bool fw, .int .i64 fp]) rfl hS (fun _ h => run_ldN 42 (.tmp 11) (g1 + 1 + 1 + 1 + 1) 0 (by kernel_rfl) (by kernel_rfl) Tryz.underlying42 rfl (by kernel_rfl) ((h.2.1).sub 0 _ rfl)) ?_
    refine tkR 2 32 (v := .pointer (some ⟨g3, 0, none⟩)) rfl hS (fun _ _ => by kernel_rfl) ?_
    refine tkR 3 33 (v := .pointer (some ⟨g3, 4, none⟩)) rfl hS (fun _ _ => by kernel_rfl) ?_
    refine tkR 4 34 (v := .slice f5 Q.length c5) rfl hS (fun _ h => run_ld1 25 (.tmp 33) g3 4 (by kernel_rfl) (by kernel_rfl) Tryz.underlying25 rfl ((h.2.2).get 4 (.slice f5 Q.length c5) rfl)) ?_
    try simp only [Act.put, List.setIfInBounds_toArray, List.set_cons_zero, List.set_cons_succ]
    refine wpAnyH_ready (rs := [5]) (by kernel_rfl) (by simp) ?_
    refine AllReadyH.cons (o := ⟨none, _, _, _, _, _⟩) rfl (fun K hK => ?_) AllReadyH.nil
    refine step_storeB rfl 40 _ _ rfl _ _ _ 40 rfl rfl (by kernel_rfl) (by rfl) (by simp [Value.oneCell']) (H6.out.drew) ?_
    refine hK.out _ _ ?_ (fun hS' => ?_)
    · exact ⟨hS.1.put, hS.2.1.row (show g1 + 1 + 1 + 1 + 1 ≠ g1 + 1 + 1 + 1 by omega), hS.2.2.row (show g3 ≠ g1 + 1 + 1 + 1 by omega)⟩
    clear hK K hS
    have hS := hS'
    clear hS'
    try simp only [Act.put]
    try simp only [Act.put, List.setIfInBounds_toArray, List.set_cons_zero, List.set_cons_succ]
    refine wpAnyH_ready (rs := [6]) (by kernel_rfl) (by simp) ?_
    refine AllReadyH.cons (o := ⟨none, _, _, _, _, _⟩) rfl (fun K hK => ?_) AllReadyH.nil
    refine step_storeB rfl 42 _ _ rfl _ _ _ 42 rfl rfl (by kernel_rfl) (by rfl) (by simp [Value.oneCell']) ((F6.out.drew).row (cs' := #[.int .i64 hf, .int .i64 hm, .bool hr, .bool hw, .bool hx, .bool ha, .bool hn, .int .i64 hs, .int .i64 hl]) (show g1 + 1 + 1 + 1 + 1 ≠ g1 + 1 + 1 + 1 by omega)) ?_
    refine hK.out _ _ ?_ (fun hS' => ?_)
    · exact ⟨hS.1.row (show g1 + 1 + 1 + 1 ≠ g1 + 1 + 1 + 1 + 1 by omega), hS.2.1.put, hS.2.2.row (show g3 ≠ g1 + 1 + 1 + 1 + 1 by omega)⟩
    clear hK K hS
    have hS := hS'
    clear hS'
    try simp only [Act.put]
    refine tkR 7 12 (v := .slice f5 Q.length c5) rfl hS (fun _ _ => by kernel_rfl) ?_
    refine tkR 8 13 (v := .int .i64 0) rfl hS (fun _ _ => by kernel_rfl) ?_
    refine wpAnyH_done (by kernel_rfl) ?_ _
    try simp only [Act.put, List.setIfInBounds_toArray, List.set_cons_zero, List.set_cons_succ]
    have M7 := Lib.hid ((((M6.out.drew).row (cs' := #[.int .i64 hf, .int .i64 hm, .bool hr, .bool hw, .bool hx, .bool ha, .bool hn, .int .i64 hs, .int .i64 hl]) (show g1 ≠ g1 + 1 + 1 + 1 by omega)).row (cs' := #[.int .i64 fk, .int .i64 fs, .int .i64 fl, .bool fw, .int .i64 fp]) (show g1 ≠ g1 + 1 + 1 + 1 + 1 by omega)))
    have U7 := Lib.hid ((((U6.out.drew).row (cs' := #[.int .i64 hf, .int .i64 hm, .bool hr, .bool hw, .bool hx, .bool ha, .bool hn, .int .i64 hs, .int .i64 hl]) (show g1 + 1 ≠ g1 + 1 + 1 + 1 by omega)).row (cs' := #[.int .i64 fk, .int .i64 fs, .int .i64 fl, .bool fw, .int .i64 fp]) (show g1 + 1 ≠ g1 + 1 + 1 + 1 + 1 by omega)))
    have V7 := Lib.hid ((((V6.out.drew).row (cs' := #[.int .i64 hf, .int .i64 hm, .bool hr, .bool hw, .bool hx, .bool ha, .bool hn, .int .i64 hs, .int .i64 hl]) (show g1 + 1 + 1 ≠ g1 + 1 + 1 + 1 by omega)).row (cs' := #[.int .i64 fk, .int .i64 fs, .int .i64 fl, .bool fw, .int .i64 fp]) (show g1 + 1 + 1 ≠ g1 + 1 + 1 + 1 + 1 by omega)))
    have H7 := Lib.hid ((((H6.out.drew).put (cs' := #[.int .i64 hf, .int .i64 hm, .bool hr, .bool hw, .bool hx, .bool ha, .bool hn, .int .i64 hs, .int .i64 hl])).row (cs' := #[.int .i64 fk, .int .i64 fs, .int .i64 fl, .bool fw, .int .i64 fp]) (show g1 + 1 + 1 + 1 ≠ g1 + 1 + 1 + 1 + 1 by omega)))
    have F7 := Lib.hid ((((F6.out.drew).row (cs' := #[.int .i64 hf, .int .i64 hm, .bool hr, .bool hw, .bool hx, .bool ha, .bool hn, .int .i64 hs, .int .i64 hl]) (show g1 + 1 + 1 + 1 + 1 ≠ g1 + 1 + 1 + 1 by omega)).put (cs' := #[.int .i64 fk, .int .i64 fs, .int .i64 fl, .bool fw, .int .i64 fp])))
    have T7 := Lib.hid ((((T6.out.drew).row (cs' := #[.int .i64 hf, .int .i64 hm, .bool hr, .bool hw, .bool hx, .bool ha, .bool hn, .int .i64 hs, .int .i64 hl]) (show g3 ≠ g1 + 1 + 1 + 1 by omega)).row (cs' := #[.int .i64 fk, .int .i64 fs, .int .i64 fl, .bool fw, .int .i64 fp]) (show g3 ≠ g1 + 1 + 1 + 1 + 1 by omega)))
    have O7 := Lib.hid ((((O6.out.drew).rowN (cs := #[.int .i64 hf, .int .i64 hm, .bool hr, .bool hw, .bool hx, .bool ha, .bool hn, .int .i64 hs, .int .i64 hl]) (O6.out.ne_box H6.out (by decide))).rowN (cs := #[.int .i64 fk, .int .i64 fs, .int .i64 fl, .bool fw, .int .i64 fp]) (O6.out.ne_box F6.out (by decide))))
    have B7 := Lib.hid ((Below.rowB (g := g1 + 1 + 1 + 1 + 1) (Below.rowB (g := g1 + 1 + 1 + 1) (Below.drew B6.out) (cs := #[.int .i64 hf, .int .i64 hm, .bool hr, .bool hw, .bool hx, .bool ha, .bool hn, .int .i64 hs, .int .i64 hl]) (show w.heap.size ≤ g1 + 1 + 1 + 1 by omega)) (cs := #[.int .i64 fk, .int .i64 fs, .int .i64 fl, .bool fw, .int .i64 fp]) (show w.heap.size ≤ g1 + 1 + 1 + 1 + 1 by omega)))
    obtain ⟨W7, hW7⟩ : ∃ W7, W7 = (((W6).drew).setRow (g1 + 1 + 1 + 1) #[.int .i64 hf, .int .i64 hm, .bool hr, .bool hw, .bool hx, .bool ha, .bool hn, .int .i64 hs, .int .i64 hl]).setRow (g1 + 1 + 1 + 1 + 1) #[.int .i64 fk, .int .i64 fs, .int .i64 fl, .bool fw, .int .i64 fp] := ⟨_, rfl⟩
    have hs7 : g3 + 1 ≤ W7.heap.size := by rw [hW7]; first | exact hs6 | (simp; omega)
    rw [← hW7] at M7 U7 V7 H7 F7 T7 O7 B7 ⊢
    clear hW7 M6 U6 V6 H6 F6 T6 O6 B6 hs6
    go_wp2
    have RH := H7.out
    have RF := F7.out
    refine bodyPost_ret (v := .tuple #[.agg #[.int .i64 hf, .int .i64 hm, .bool hr, .bool hw, .bool hx, .bool ha, .bool hn, .int .i64 hs, .int .i64 hl], .agg #[.int .i64 fk, .int .i64 fs, .int .i64 fl, .bool fw, .int .i64 fp], .slice f5 Q.length c5, .int .i64 0]) (by simp [results, Tryz.results8, go_sem, RH.get 0 (.int .i64 hf) rfl, RH.get 1 (.int .i64 hm) rfl, RH.get 2 (.bool hr) rfl, RH.get 3 (.bool hw) rfl, RH.get 4 (.bool hx) rfl, RH.get 5 (.bool ha) rfl, RH.get 6 (.bool hn) rfl, RH.get 7 (.int .i64 hs) rfl, RH.get 8 (.int .i64 hl) rfl, RF.get 0 (.int .i64 fk) rfl, RF.get 1 (.int .i64 fs) rfl, RF.get 2 (.int .i64 fl) rfl, RF.get 3 (.bool fw) rfl, RF.get 4 (.int .i64 fp) rfl]) rfl ?_
    exact ⟨f5, c5, rfl, OwnI.mono O7.out (show w.heap.size ≤ g3 + 1 by omega), B7.out⟩
end
end Go.Proofs.YtalbblaicmdhmaaGreat
