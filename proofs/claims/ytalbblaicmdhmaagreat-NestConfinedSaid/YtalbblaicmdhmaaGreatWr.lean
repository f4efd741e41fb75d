/- The reference's Table and Walk: contracts. -/
import Derived.Test.YtalbblaicmdhmaaGreatDj
import Derived.Test.YtalbblaicmdhmaaGreatDy
import Derived.Test.YtalbblaicmdhmaaGreatWs
import Derived.Test.YtalbblaicmdhmaaGreatIn
import Derived.Test.YtalbblaicmdhmaaGreatMemA
set_option linter.all false
namespace Go.Proofs.YtalbblaicmdhmaaGreat
open Go.ChangeShapes Go.WideShapes Go.ChangeAt Go.RowKit Go.Deep

theorem kp_below {w w' : World} (hb : Below w.heap.size w w') {b o : Nat} {x : Value} (hc : w.cell? ⟨b, o, none⟩ = some x) : w'.cell? ⟨b, o, none⟩ = some x := keepc hb hc

set_option maxRecDepth 100000 in
set_option maxHeartbeats 800000 in
theorem tblR_any (f : Option Addr) (l c : Nat) (X : Nat → BitVec 64) (st lv fr pg : Int) (w : World) (hX : WordsAt w f l X) (hl : l ≤ 100000) (hp : placeB st lv = true) (p0 : 0 ≤ pg) (p1 : pg ≤ 4095) (f0 : 0 ≤ fr) (f1 : fr * 8 + 8 ≤ l) :
    Calls Tryz.prog 28 #[.agg #[.slice f l c], .int .i64 st, .int .i64 lv, .int .i64 fr, .int .i64 pg] w fun e w' => e = .returned (dscV (tblD X st lv fr pg)) ∧ Below w.heap.size w w' := by
  have hlv := (placeB_iff.1 hp).2
  have HI := Lib.hid (fun W => rindex_any lv pg W hlv.1 hlv.2 p0 p1)
  have HO := Lib.hid (fun v W => rof_any st lv v W hp)
  have hg : 0 ≤ idx lv pg ∧ idx lv pg ≤ 7 := idx_lo lv pg
  have ht : tblD X st lv fr pg = ofD st lv (X (fr * 8 + idx lv pg).toNat) := rfl
  rw [ht]
  clear ht hp hlv
  obtain ⟨b, o, rfl, hc0⟩ := hX (fr * 8 + idx lv pg).toNat (by omega)
  have hc : w.cell? ⟨b, o + (fr * 8 + idx lv pg).toNat, none⟩ = some (.int .u64 (u (X (fr * 8 + idx lv pg).toNat))) := hc0
  clear hc0
  have HV := Lib.hid (fun W => HO.out (X (fr * 8 + idx lv pg).toNat) W)
  clear HO
  generalize X (fr * 8 + idx lv pg).toNat = v at *
  generalize ofD st lv v = d at *
  generalize idx lv pg = g at *
  obtain ⟨g0, g1⟩ := hg
  have i1 : IntKind.i64.wrap (fr * 8) = fr * 8 := IntWalk.i64_in _ (by omega)
  have i2 : IntKind.i64.wrap (fr * 8 + g) = fr * 8 + g := IntWalk.i64_in _ (by omega)
  have i3 : 0 ≤ fr * 8 + g := by omega
  have i4 : fr * 8 + g < (l : Int) := by omega
  have j0 : 0 ≤ fr * 8 := by omega
  obtain ⟨j, hj⟩ : ∃ j, j = (fr * 8 + g).toNat := ⟨_, rfl⟩
  have i5 : (fr * 8 + g).toNat = j := hj.symm
  rw [i5] at hc
  clear hj p0 p1 f1 hX
  have hblt : b < w.heap.size := cell_block hc
  have hne : b ≠ w.heap.size + 1 := by omega
  have X0 := (BoxAt.new w #[.slice (some ⟨b, o, none⟩) l c] 24).alloc (.cells z9 70)
  have x0 := X0.get 0 (.slice (some ⟨b, o, none⟩) l c) rfl
  clear X0
  have Z0 := Lib.hid (BoxAt.drew (BoxAt.new (w.alloc (.cells #[.slice (some ⟨b, o, none⟩) l c] 24)) z9 70))
  rw [show (w.alloc (.cells #[.slice (some ⟨b, o, none⟩) l c] 24)).heap.size = w.heap.size + 1 from by simp] at Z0
  have hc1 := keepc (bel_alloc (bel_alloc (Below.refl w.heap.size w) (.cells #[.slice (some ⟨b, o, none⟩) l c] 24)) (.cells z9 70)) hc
  have B0 := Lib.hid (Below.drew (bel_alloc (bel_alloc (Below.refl w.heap.size w) (.cells #[.slice (some ⟨b, o, none⟩) l c] 24)) (.cells z9 70)))
  clear hc
  go_enter Tryz.func28, Tryz.ntmps28
  go_wp2
  go_region_held3 (fun w' => w'.cell? ⟨w.heap.size, 0, none⟩ = some (.slice (some ⟨b, o, none⟩) l c) ∧ w'.cell? ⟨b, o + j, none⟩ = some (.int .u64 (u v)))
    (refine ⟨?_, ?_⟩ <;> (repeat (first | with_reducible assumption | with_reducible refine cell_keep ?_ _ | with_reducible refine cell_drew ?_ | with_reducible refine cell_set _ hne ?_ | with_reducible refine cell_set _ (by omega) ?_ | (refine keepc hb2 ?_) | (refine keepc hb1 ?_))))
    (first
      | (go_at_call 40; refine (HI.out _).mono ?_; rintro e w1 ⟨rfl, hb1⟩; have Z1 := Lib.hid (Z0.out.below hb1); have B1 := Lib.hid (bel_trans B0.out hb1))
      | (go_at_call 39; refine (HV.out _).mono ?_; rintro e w2 ⟨rfl, hb2⟩; have Z2 := Z1.out.below hb2; have B2 := Lib.hid (bel_trans B1.out hb2);
          have z0 := Z2.get 0 (.int .i64 0) rfl; have z1 := Z2.get 1 (.int .i64 0) rfl; have z2 := Z2.get 2 (.bool false) rfl; have z3 := Z2.get 3 (.bool false) rfl; have z4 := Z2.get 4 (.bool false) rfl; have z5 := Z2.get 5 (.bool false) rfl; have z6 := Z2.get 6 (.bool false) rfl; have z7 := Z2.get 7 (.int .i64 0) rfl; have z8 := Z2.get 8 (.int .i64 0) rfl;
          have y0 := Z2.free 0; have y1 := Z2.free 1; have y2 := Z2.free 2; have y3 := Z2.free 3; have y4 := Z2.free 4; have y5 := Z2.free 5; have y6 := Z2.free 6; have y7 := Z2.free 7; have y8 := Z2.free 8; clear Z2; unfold dscV))
  go_wp2
  refine bodyPost_ret (v := .agg #[.int .i64 d.k, .int .i64 d.f, .bool d.r, .bool d.w, .bool d.x, .bool d.a, .bool d.n, .int .i64 d.s, .int .i64 d.o]) (by simp [results, Tryz.results28, go_sem, z0, z1, z2, z3, z4, z5, z6, z7, z8]) rfl ⟨rfl, ?_⟩
  repeat' (first | with_reducible exact B2.out | with_reducible refine Below.setCell ?_ (by first | (simp; done) | (simp; omega)) _)

/-- What a walk leaves: a hit, a fault, the tables that were read. -/
def WalkEnd (w : World) (q : Hit × Flt × List Int) (e : Ending) (w' : World) : Prop :=
  ∃ f' c', e = .returned (.tuple #[hitV q.1, fltV q.2.1, .slice f' q.2.2.length c']) ∧ OwnI w' w.heap.size (.slice f' q.2.2.length c') q.2.2 ∧ Below w.heap.size w w'
theorem WalkEnd.mk' {w w' : World} {q : Hit × Flt × List Int} {hh : Hit} {ff : Flt} {R : List Int} {e : Ending} {f' : Option Addr} {c' n b : Nat} (hq : (hh, ff, R) = q) (he : e = .returned (.tuple #[hitV hh, fltV ff, .slice f' n c'])) (hn : n = R.length) (ho : OwnI w' b (.slice f' n c') R) (hb : w.heap.size ≤ b) (hB : Below w.heap.size w w') : WalkEnd w q e w' := by
  subst hq hn
  exact ⟨f', c', he, ho.mono hb, hB⟩
theorem rframesB (f : Option Addr) (l c : Nat) (w : World) (hl : l ≤ 1000000000000000) :
    Calls Tryz.prog 20 #[.agg #[.slice f l c]] w fun e w' => e = .returned (.int .i64 ((l : Int) / 8)) ∧ Below w.heap.size w w' :=
  (rframes_any f l c w hl).mono fun _ _ h => ⟨h.1, by rw [h.2]; exact bel_alloc (Below.refl _ _) _⟩

set_option maxRecDepth 100000 in
set_option maxHeartbeats 6400000 in
theorem walkR_any (f : Option Addr) (l c : Nat) (X : Nat → BitVec 64) (st fr pg : Int) (w : World) (hX : WordsAt w f l X) (hM : okM l = true) (hst : st = 1 ∨ st = 2) (p0 : 0 ≤ pg) (p1 : pg ≤ 4095) (f0 : 0 ≤ fr) (f1 : fr ≤ 4095) :
    Calls Tryz.prog 21 #[.agg #[.slice f l c], .int .i64 st, .int .i64 fr, .int .i64 pg] w (WalkEnd w (walkD l X st fr pg)) := by
  obtain ⟨l0, l1, l2⟩ := okM_true hM
  obtain ⟨T, hT⟩ : ∃ T : Int → Int → Dsc, T = fun lv f => tblD X st lv f pg := ⟨_, rfl⟩
  have HT := Lib.hid (fun lv f => congrFun (congrFun hT lv) f)
  have HK := Lib.hid (show ∀ lv f, (T lv f).k = 0 ∨ ((T lv f).k = 1 ∧ lv ≠ 3) ∨ (T lv f).k = 2 from by rw [hT]; exact fun lv f => tbl_kind X st lv f pg)
  have HF := Lib.hid (show ∀ lv f, 0 ≤ (T lv f).f ∧ (T lv f).f ≤ 4095 from by rw [hT]; exact fun lv f => tbl_frame X st lv f pg)
  obtain ⟨q, hq⟩ : ∃ q, q = walkD l X st fr pg := ⟨_, rfl⟩
  rw [← hq]
  have HQ := Lib.hid (show walkS ((l : Int) / 8) T st pg (4 - (0 : Int)).toNat 0 fr [] = q from by rw [hq, hT]; rfl)
  clear hq hT
  have HN := Lib.hid (fun W => rframesB f l c W (by omega))
  have hN0 : 1 ≤ (l : Int) / 8 := by omega
  have hN1 : (l : Int) / 8 ≤ 64 := by omega
  have HN8 := Lib.hid (show ((l : Int) / 8) * 8 = l by omega)
  generalize (l : Int) / 8 = N at *
  have HX := Lib.hid hX
  have HPL := Lib.hid (fun lv (h0 : 0 ≤ lv) (h1 : lv ≤ 3) => (placeB_iff.2 ⟨hst, h0, h1⟩ : placeB st lv = true))
  clear hX hM l2 hst
  have M0 := Lib.hid ((((BoxAt.new w #[.slice f l c] 24).alloc (.cells z9 40)).alloc (.cells z5 42)).alloc (.cells #[.int .i64 0, .int .i64 st, .int .i64 0, .bool false, .int .i64 pg] 42))
  have H0 := Lib.hid (((BoxAt.newAt (w.alloc (.cells #[.slice f l c] 24)) z9 40 (w.heap.size + 1) (by simp)).alloc (.cells z5 42)).alloc (.cells #[.int .i64 0, .int .i64 st, .int .i64 0, .bool false, .int .i64 pg] 42))
  have F0 := Lib.hid ((BoxAt.newAt ((w.alloc (.cells #[.slice f l c] 24)).alloc (.cells z9 40)) z5 42 (w.heap.size + 1 + 1) (by simp)).alloc (.cells #[.int .i64 0, .int .i64 st, .int .i64 0, .bool false, .int .i64 pg] 42))
  have L0 := Lib.hid (BoxAt.newAt (((w.alloc (.cells #[.slice f l c] 24)).alloc (.cells z9 40)).alloc (.cells z5 42)) #[.int .i64 0, .int .i64 st, .int .i64 0, .bool false, .int .i64 pg] 42 (w.heap.size + 1 + 1 + 1) (by simp))
  have B0 := Lib.hid (bel_alloc (bel_alloc (bel_alloc (bel_alloc (Below.refl w.heap.size w) (.cells #[.slice f l c] 24)) (.cells z9 40)) (.cells z5 42)) (.cells #[.int .i64 0, .int .i64 st, .int .i64 0, .bool false, .int .i64 pg] 42))
  go_enter Tryz.func21, Tryz.ntmps21
  go_wp2
  obtain ⟨W0, hW0⟩ : ∃ W0, W0 = (((w.alloc (.cells #[.slice f l c] 24)).alloc (.cells z9 40)).alloc (.cells z5 42)).alloc (.cells #[.int .i64 0, .int .i64 st, .int .i64 0, .bool false, .int .i64 pg] 42) := ⟨_, rfl⟩
  rw [← hW0] at M0 H0 F0 L0 B0 ⊢
  clear hW0
  go_loopw [2, 11, 13] (fun s2 s11 s13 wr => ∃ (lv fr x : Int) (R : List Int) (f' : Option Addr) (c' : Nat), 0 ≤ lv ∧ lv ≤ 3 ∧ 0 ≤ fr ∧ fr ≤ 4095 ∧ s2 = .int .i64 fr ∧ s13 = .int .i64 lv ∧ s11 = .slice f' R.length c' ∧ R.length ≤ 4 ∧ Hid ((R.length : Int) = lv) ∧ Hid (BoxAt wr (w.heap.size) #[.slice f l c] 24) ∧ Hid (BoxAt wr (w.heap.size + 1) z9 40) ∧ Hid (BoxAt wr (w.heap.size + 1 + 1) z5 42) ∧ Hid (BoxAt wr (w.heap.size + 1 + 1 + 1) #[.int .i64 0, .int .i64 st, .int .i64 x, .bool false, .int .i64 pg] 42) ∧ Hid (Below w.heap.size w wr) ∧ Hid (OwnI wr (w.heap.size + 4) (.slice f' R.length c') R) ∧ Hid (walkS N T st pg (4 - lv).toNat lv fr R = q)) (fun _ _ s13 _ => (4 - intOf s13).toNat)
  case atStart => exact ⟨0, fr, 0, [], none, 0, by decide, by decide, f0, f1, rfl, rfl, rfl, by decide, rfl, M0.out, H0.out, F0.out, L0.out, B0.out, OwnI.nil _ _, HQ.out⟩
  case round =>
    clear HQ M0 H0 F0 L0 B0
    obtain ⟨lv, fr, x, R, f', c', v0, v1, g0, g1, rfl, rfl, rfl, hRl, HR, M, Hh, Ff, L, B, O, HQ⟩ := hrel
    have d4 : decide (lv < 4) = true := decide_eq_true (by omega)
    have hn : (4 - lv).toNat = (4 - (lv + 1)).toNat + 1 := by omega
    rw [hn] at HQ
    clear hn
    have HP := Lib.hid (HPL.out lv v0 v1)
    have HC := Lib.hid (fun W => rcovers_any lv W v0 v1)
    have hcv := cov_pos lv
    by_cases hA : N ≤ fr
    · have dA : decide (N ≤ fr) = true := decide_eq_true hA
      have HE := Lib.hid ((walkS_size hA).symm.trans HQ.out)
      have Lc2 := L.out.get 2 (.int .i64 x) rfl
      have Lz2 := L.out.free 2
      have Mc0 := M.out.get 0 (.slice f l c) rfl
      go_wp2_with fail
      refine (HN.out _).mono ?_
      rintro e w1 ⟨rfl, hb1⟩
      have M2 := Lib.hid ((M.out.other ⟨w.heap.size + 1 + 1 + 1, 2, none⟩ (.int .i64 lv) (by first | assumption | (simp; done) | (simp; omega))).below hb1)
      have H2 := Lib.hid ((Hh.out.other ⟨w.heap.size + 1 + 1 + 1, 2, none⟩ (.int .i64 lv) (by first | assumption | (simp; done) | (simp; omega))).below hb1)
      have F2 := Lib.hid ((Ff.out.other ⟨w.heap.size + 1 + 1 + 1, 2, none⟩ (.int .i64 lv) (by first | assumption | (simp; done) | (simp; omega))).below hb1)
      have L2 := Lib.hid ((L.out.set 2 (.int .i64 lv) #[.int .i64 0, .int .i64 st, .int .i64 lv, .bool false, .int .i64 pg] rfl).below hb1)
      have O2 := Lib.hid ((O.out.other ⟨w.heap.size + 1 + 1 + 1, 2, none⟩ (.int .i64 lv) (by first | assumption | (simp; done) | (simp; omega))).below hb1)
      have B2 := Lib.hid (bel_trans (Below.setCell B.out (p := ⟨w.heap.size + 1 + 1 + 1, 2, none⟩) (by first | assumption | (simp; done) | (simp; omega)) (.int .i64 lv)) hb1)
      clear Lc2 Lz2 Mc0
      clear M Hh Ff L O B hb1
      have Lc0 := L2.out.get 0 (.int .i64 0) rfl
      have Lz0 := L2.out.free 0
      go_upto_region 9 with fail
      have M3 := Lib.hid ((M2.out.other ⟨w.heap.size + 1 + 1 + 1, 0, none⟩ (.int .i64 1) (by first | assumption | (simp; done) | (simp; omega))))
      have H3 := Lib.hid ((H2.out.other ⟨w.heap.size + 1 + 1 + 1, 0, none⟩ (.int .i64 1) (by first | assumption | (simp; done) | (simp; omega))))
      have F3 := Lib.hid ((F2.out.other ⟨w.heap.size + 1 + 1 + 1, 0, none⟩ (.int .i64 1) (by first | assumption | (simp; done) | (simp; omega))))
      have L3 := Lib.hid ((L2.out.set 0 (.int .i64 1) #[.int .i64 1, .int .i64 st, .int .i64 lv, .bool false, .int .i64 pg] rfl))
      have O3 := Lib.hid ((O2.out.other ⟨w.heap.size + 1 + 1 + 1, 0, none⟩ (.int .i64 1) (by first | assumption | (simp; done) | (simp; omega))))
      have B3 := Lib.hid ((Below.setCell B2.out (p := ⟨w.heap.size + 1 + 1 + 1, 0, none⟩) (by first | assumption | (simp; done) | (simp; omega)) (.int .i64 1)))
      clear Lc0 Lz0
      clear M2 H2 F2 L2 O2 B2
      obtain ⟨W9, hW9⟩ : ∃ W9, W9 = _ := ⟨w1.setCell ⟨w.heap.size + 1 + 1 + 1, 0, none⟩ (.int .i64 1), rfl⟩
      rw [← hW9] at M3 H3 F3 L3 B3 O3 ⊢
      clear hW9
      have Lc0 := L3.out.get 0 (.int .i64 1) rfl
      have Lc1 := L3.out.get 1 (.int .i64 st) rfl
      have Lc2 := L3.out.get 2 (.int .i64 lv) rfl
      have Lc3 := L3.out.get 3 (.bool false) rfl
      have Lc4 := L3.out.get 4 (.int .i64 pg) rfl
      have Hc0 := H3.out.get 0 (.int .i64 0) rfl
      have Hc1 := H3.out.get 1 (.int .i64 0) rfl
      have Hc2 := H3.out.get 2 (.bool false) rfl
      have Hc3 := H3.out.get 3 (.bool false) rfl
      have Hc4 := H3.out.get 4 (.bool false) rfl
      have Hc5 := H3.out.get 5 (.bool false) rfl
      have Hc6 := H3.out.get 6 (.bool false) rfl
      have Hc7 := H3.out.get 7 (.int .i64 0) rfl
      have Hc8 := H3.out.get 8 (.int .i64 0) rfl
      have Hz0 := H3.out.free 0
      have Hz1 := H3.out.free 1
      have Hz2 := H3.out.free 2
      have Hz3 := H3.out.free 3
      have Hz4 := H3.out.free 4
      have Hz5 := H3.out.free 5
      have Hz6 := H3.out.free 6
      have Hz7 := H3.out.free 7
      have Hz8 := H3.out.free 8
      have Fc0 := F3.out.get 0 (.int .i64 0) rfl
      have Fc1 := F3.out.get 1 (.int .i64 0) rfl
      have Fc2 := F3.out.get 2 (.int .i64 0) rfl
      have Fc3 := F3.out.get 3 (.bool false) rfl
      have Fc4 := F3.out.get 4 (.int .i64 0) rfl
      have Fz0 := F3.out.free 0
      have Fz1 := F3.out.free 1
      have Fz2 := F3.out.free 2
      have Fz3 := F3.out.free 3
      have Fz4 := F3.out.free 4
      go_region_held3 (fun w' => w'.cell? ⟨w.heap.size + 1 + 1 + 1, 0, none⟩ = some (.int .i64 1) ∧ w'.cell? ⟨w.heap.size + 1 + 1 + 1, 1, none⟩ = some (.int .i64 st) ∧ w'.cell? ⟨w.heap.size + 1 + 1 + 1, 2, none⟩ = some (.int .i64 lv) ∧ w'.cell? ⟨w.heap.size + 1 + 1 + 1, 3, none⟩ = some (.bool false) ∧ w'.cell? ⟨w.heap.size + 1 + 1 + 1, 4, none⟩ = some (.int .i64 pg))
        (refine ⟨?_, ?_, ?_, ?_, ?_⟩ <;> (repeat (first | with_reducible assumption | with_reducible refine cell_keep ?_ _ | with_reducible refine cell_drew ?_ | with_reducible refine cell_set _ (by first | assumption | (simp; done) | omega) ?_)))
        (first | fail)
      go_wp2
      refine bodyPost_ret (v := .tuple #[.agg #[.int .i64 0, .int .i64 0, .bool false, .bool false, .bool false, .bool false, .bool false, .int .i64 0, .int .i64 0], .agg #[.int .i64 1, .int .i64 st, .int .i64 lv, .bool false, .int .i64 pg], .slice f' (R.length) c']) (by simp [results, Tryz.results21, go_sem, Hc0, Hc1, Hc2, Hc3, Hc4, Hc5, Hc6, Hc7, Hc8, Fc0, Fc1, Fc2, Fc3, Fc4]) rfl ?_
      refine WalkEnd.mk' HE.out (hh := hit0) (ff := ⟨1, st, lv, false, pg⟩) (R := R) rfl (by first | rfl | simp) ?_ (show w.heap.size ≤ w.heap.size + 4 by omega) ?_
      · repeat' (first | with_reducible exact O3.out | with_reducible refine OwnI.other ?_ _ _ (by first | (simp; done) | (simp; omega)) | with_reducible refine OwnI.drew ?_)
      · repeat' (first | with_reducible exact B3.out | with_reducible refine Below.setCell ?_ (by first | (simp; done) | (simp; omega)) _ | with_reducible refine Below.drew ?_)
    · have hkd := HK.out lv fr
      have hfd := HF.out lv fr
      have hfr8 := HN8.out
      obtain ⟨d, hd⟩ : ∃ d, T lv fr = d := ⟨_, rfl⟩
      rw [hd] at hkd hfd
      rcases hkd with hkd | ⟨hkd, h3⟩ | hkd
      · have HE := Lib.hid ((walkS_none hA (by rw [hd]; exact hkd)).symm.trans HQ.out)
        obtain ⟨dk, df, dr, dw, dx, da, dn, ds, d0⟩ := d
        have dA : decide (N ≤ fr) = false := decide_eq_false hA
        have Lc2 := L.out.get 2 (.int .i64 x) rfl
        have Lz2 := L.out.free 2
        have Mc0 := M.out.get 0 (.slice f l c) rfl
        go_wp2_with fail
        refine (HN.out _).mono ?_
        rintro e w1 ⟨rfl, hb1⟩
        have M2 := Lib.hid ((M.out.other ⟨w.heap.size + 1 + 1 + 1, 2, none⟩ (.int .i64 lv) (by first | assumption | (simp; done) | (simp; omega))).below hb1)
        have H2 := Lib.hid ((Hh.out.other ⟨w.heap.size + 1 + 1 + 1, 2, none⟩ (.int .i64 lv) (by first | assumption | (simp; done) | (simp; omega))).below hb1)
        have F2 := Lib.hid ((Ff.out.other ⟨w.heap.size + 1 + 1 + 1, 2, none⟩ (.int .i64 lv) (by first | assumption | (simp; done) | (simp; omega))).below hb1)
        have L2 := Lib.hid ((L.out.set 2 (.int .i64 lv) #[.int .i64 0, .int .i64 st, .int .i64 lv, .bool false, .int .i64 pg] rfl).below hb1)
        have O2 := Lib.hid ((O.out.other ⟨w.heap.size + 1 + 1 + 1, 2, none⟩ (.int .i64 lv) (by first | assumption | (simp; done) | (simp; omega))).below hb1)
        have B2 := Lib.hid (bel_trans (Below.setCell B.out (p := ⟨w.heap.size + 1 + 1 + 1, 2, none⟩) (by first | assumption | (simp; done) | (simp; omega)) (.int .i64 lv)) hb1)
        clear Lc2 Lz2 Mc0
        clear M Hh Ff L O B hb1
        have HZ3 := Lib.hid (cell_new w1 #[.int .i64 fr] 3 0)
        have HO3 := Lib.hid (O2.out.alloc (.cells #[.int .i64 fr] 3))
        have HS3 : Hid (w.heap.size + 4 ≤ (w1.alloc (.cells #[.int .i64 fr] 3)).heap.size) := by
          have := L2.out.lt
          show _ ≤ _
          simp
          omega
        go_wp2_with (at_builtin; refine wpList_pushI rfl _ _ rfl (w.heap.size + 4) _ (R) rfl HO3.out w1.heap.size 1 (fr) rfl HZ3.out (by omega) HS3.out ?_; intro fp3 cp3 w3 hO3 hb3; have M3 := Lib.hid ((M2.out.alloc (.cells #[.int .i64 fr] 3)).under hb3 (by omega)); have H3 := Lib.hid ((H2.out.alloc (.cells #[.int .i64 fr] 3)).under hb3 (by omega)); have F3 := Lib.hid ((F2.out.alloc (.cells #[.int .i64 fr] 3)).under hb3 (by omega)); have L3 := Lib.hid ((L2.out.alloc (.cells #[.int .i64 fr] 3)).under hb3 (by omega)); have O3 := Lib.hid (hO3); have B3 := Lib.hid ((bel_alloc B2.out (.cells #[.int .i64 fr] 3)).trans (hb3.mono (by omega))); clear M2 H2 F2 L2 O2 B2 hb3 hO3 HZ3 HO3 HS3; have Mc0 := M3.out.get 0 (.slice f l c) rfl)
        have HW := HX.out.below B3.out
        refine (tblR_any f l c X st lv fr pg _ HW (by omega) HP.out p0 p1 g0 (by have := HN8.out; omega)).mono ?_
        rintro e w4 ⟨rfl, hb4⟩
        clear HW
        have M5 := Lib.hid (M3.out.below hb4)
        have H5 := Lib.hid (H3.out.below hb4)
        have F5 := Lib.hid (F3.out.below hb4)
        have L5 := Lib.hid (L3.out.below hb4)
        have O5 := Lib.hid (O3.out.below hb4)
        have B5 := Lib.hid (bel_trans B3.out hb4)
        clear Mc0
        clear M3 H3 F3 L3 O3 B3 hb4
        have hG := L5.out.lt
        rw [← HT.out lv fr]
        rw [hd]
        have hkk : dk = 0 := hkd
        clear hkd
        subst hkk
        unfold dscV
        simp only
        go_upto_region 15 with fail
        have M6 := Lib.hid ((M5.out.alloc (.cells #[.int .i64 0, .int .i64 df, .bool dr, .bool dw, .bool dx, .bool da, .bool dn, .int .i64 ds, .int .i64 d0] 70)))
        have H6 := Lib.hid ((H5.out.alloc (.cells #[.int .i64 0, .int .i64 df, .bool dr, .bool dw, .bool dx, .bool da, .bool dn, .int .i64 ds, .int .i64 d0] 70)))
        have F6 := Lib.hid ((F5.out.alloc (.cells #[.int .i64 0, .int .i64 df, .bool dr, .bool dw, .bool dx, .bool da, .bool dn, .int .i64 ds, .int .i64 d0] 70)))
        have L6 := Lib.hid ((L5.out.alloc (.cells #[.int .i64 0, .int .i64 df, .bool dr, .bool dw, .bool dx, .bool da, .bool dn, .int .i64 ds, .int .i64 d0] 70)))
        have D6 := Lib.hid ((BoxAt.newAt _ #[.int .i64 0, .int .i64 df, .bool dr, .bool dw, .bool dx, .bool da, .bool dn, .int .i64 ds, .int .i64 d0] 70 (w4.heap.size) (by first | rfl | (simp; done) | (simp; omega))))
        have O6 := Lib.hid ((O5.out.alloc (.cells #[.int .i64 0, .int .i64 df, .bool dr, .bool dw, .bool dx, .bool da, .bool dn, .int .i64 ds, .int .i64 d0] 70)))
        have B6 := Lib.hid ((bel_alloc B5.out (.cells #[.int .i64 0, .int .i64 df, .bool dr, .bool dw, .bool dx, .bool da, .bool dn, .int .i64 ds, .int .i64 d0] 70)))
        clear M5 H5 F5 L5 O5 B5
        obtain ⟨W8, hW8⟩ : ∃ W8, W8 = w4.alloc (.cells #[.int .i64 0, .int .i64 df, .bool dr, .bool dw, .bool dx, .bool da, .bool dn, .int .i64 ds, .int .i64 d0] 70) := ⟨_, rfl⟩
        rw [← hW8] at M6 H6 F6 L6 D6 B6 O6 ⊢
        clear hW8
        have Lc0 := L6.out.get 0 (.int .i64 0) rfl
        have Lz0 := L6.out.free 0
        go_upto_region 16 with fail
        have M7 := Lib.hid ((M6.out.other ⟨w.heap.size + 1 + 1 + 1, 0, none⟩ (.int .i64 2) (by first | assumption | (simp; done) | (simp; omega))))
        have H7 := Lib.hid ((H6.out.other ⟨w.heap.size + 1 + 1 + 1, 0, none⟩ (.int .i64 2) (by first | assumption | (simp; done) | (simp; omega))))
        have F7 := Lib.hid ((F6.out.other ⟨w.heap.size + 1 + 1 + 1, 0, none⟩ (.int .i64 2) (by first | assumption | (simp; done) | (simp; omega))))
        have L7 := Lib.hid ((L6.out.set 0 (.int .i64 2) #[.int .i64 2, .int .i64 st, .int .i64 lv, .bool false, .int .i64 pg] rfl))
        have D7 := Lib.hid ((D6.out.other ⟨w.heap.size + 1 + 1 + 1, 0, none⟩ (.int .i64 2) (by first | assumption | (simp; done) | (simp; omega))))
        have O7 := Lib.hid ((O6.out.other ⟨w.heap.size + 1 + 1 + 1, 0, none⟩ (.int .i64 2) (by first | assumption | (simp; done) | (simp; omega))))
        have B7 := Lib.hid ((Below.setCell B6.out (p := ⟨w.heap.size + 1 + 1 + 1, 0, none⟩) (by first | assumption | (simp; done) | (simp; omega)) (.int .i64 2)))
        clear Lc0 Lz0
        clear M6 H6 F6 L6 D6 O6 B6
        obtain ⟨W9, hW9⟩ : ∃ W9, W9 = _ := ⟨W8.setCell ⟨w.heap.size + 1 + 1 + 1, 0, none⟩ (.int .i64 2), rfl⟩
        rw [← hW9] at M7 H7 F7 L7 D7 B7 O7 ⊢
        clear hW9
        have Lc0 := L7.out.get 0 (.int .i64 2) rfl
        have Lc1 := L7.out.get 1 (.int .i64 st) rfl
        have Lc2 := L7.out.get 2 (.int .i64 lv) rfl
        have Lc3 := L7.out.get 3 (.bool false) rfl
        have Lc4 := L7.out.get 4 (.int .i64 pg) rfl
        have Hc0 := H7.out.get 0 (.int .i64 0) rfl
        have Hc1 := H7.out.get 1 (.int .i64 0) rfl
        have Hc2 := H7.out.get 2 (.bool false) rfl
        have Hc3 := H7.out.get 3 (.bool false) rfl
        have Hc4 := H7.out.get 4 (.bool false) rfl
        have Hc5 := H7.out.get 5 (.bool false) rfl
        have Hc6 := H7.out.get 6 (.bool false) rfl
        have Hc7 := H7.out.get 7 (.int .i64 0) rfl
        have Hc8 := H7.out.get 8 (.int .i64 0) rfl
        have Hz0 := H7.out.free 0
        have Hz1 := H7.out.free 1
        have Hz2 := H7.out.free 2
        have Hz3 := H7.out.free 3
        have Hz4 := H7.out.free 4
        have Hz5 := H7.out.free 5
        have Hz6 := H7.out.free 6
        have Hz7 := H7.out.free 7
        have Hz8 := H7.out.free 8
        have Fc0 := F7.out.get 0 (.int .i64 0) rfl
        have Fc1 := F7.out.get 1 (.int .i64 0) rfl
        have Fc2 := F7.out.get 2 (.int .i64 0) rfl
        have Fc3 := F7.out.get 3 (.bool false) rfl
        have Fc4 := F7.out.get 4 (.int .i64 0) rfl
        have Fz0 := F7.out.free 0
        have Fz1 := F7.out.free 1
        have Fz2 := F7.out.free 2
        have Fz3 := F7.out.free 3
        have Fz4 := F7.out.free 4
        go_region_held3 (fun w' => w'.cell? ⟨w.heap.size + 1 + 1 + 1, 0, none⟩ = some (.int .i64 2) ∧ w'.cell? ⟨w.heap.size + 1 + 1 + 1, 1, none⟩ = some (.int .i64 st) ∧ w'.cell? ⟨w.heap.size + 1 + 1 + 1, 2, none⟩ = some (.int .i64 lv) ∧ w'.cell? ⟨w.heap.size + 1 + 1 + 1, 3, none⟩ = some (.bool false) ∧ w'.cell? ⟨w.heap.size + 1 + 1 + 1, 4, none⟩ = some (.int .i64 pg))
          (refine ⟨?_, ?_, ?_, ?_, ?_⟩ <;> (repeat (first | with_reducible assumption | with_reducible refine cell_keep ?_ _ | with_reducible refine cell_drew ?_ | with_reducible refine cell_set _ (by first | assumption | (simp; done) | omega) ?_)))
          (first | fail)
        go_wp2
        refine bodyPost_ret (v := .tuple #[.agg #[.int .i64 0, .int .i64 0, .bool false, .bool false, .bool false, .bool false, .bool false, .int .i64 0, .int .i64 0], .agg #[.int .i64 2, .int .i64 st, .int .i64 lv, .bool false, .int .i64 pg], .slice fp3 ((R.length + 1)) cp3]) (by simp [results, Tryz.results21, go_sem, Hc0, Hc1, Hc2, Hc3, Hc4, Hc5, Hc6, Hc7, Hc8, Fc0, Fc1, Fc2, Fc3, Fc4]) rfl ?_
        refine WalkEnd.mk' HE.out (hh := hit0) (ff := ⟨2, st, lv, false, pg⟩) (R := R ++ [fr]) rfl (by first | rfl | simp) ?_ (show w.heap.size ≤ w.heap.size + 4 by omega) ?_
        · repeat' (first | with_reducible exact O7.out | with_reducible refine OwnI.other ?_ _ _ (by first | (simp; done) | (simp; omega)) | with_reducible refine OwnI.drew ?_)
        · repeat' (first | with_reducible exact B7.out | with_reducible refine Below.setCell ?_ (by first | (simp; done) | (simp; omega)) _ | with_reducible refine Below.drew ?_)
      · have HE := Lib.hid ((walkS_table hA (by rw [hd]; exact hkd)).symm.trans HQ.out)
        rw [hd] at HE
        obtain ⟨dk, df, dr, dw, dx, da, dn, ds, d0⟩ := d
        simp only at HE
        have dA : decide (N ≤ fr) = false := decide_eq_false hA
        have Lc2 := L.out.get 2 (.int .i64 x) rfl
        have Lz2 := L.out.free 2
        have Mc0 := M.out.get 0 (.slice f l c) rfl
        go_wp2_with fail
        refine (HN.out _).mono ?_
        rintro e w1 ⟨rfl, hb1⟩
        have M2 := Lib.hid ((M.out.other ⟨w.heap.size + 1 + 1 + 1, 2, none⟩ (.int .i64 lv) (by first | assumption | (simp; done) | (simp; omega))).below hb1)
        have H2 := Lib.hid ((Hh.out.other ⟨w.heap.size + 1 + 1 + 1, 2, none⟩ (.int .i64 lv) (by first | assumption | (simp; done) | (simp; omega))).below hb1)
        have F2 := Lib.hid ((Ff.out.other ⟨w.heap.size + 1 + 1 + 1, 2, none⟩ (.int .i64 lv) (by first | assumption | (simp; done) | (simp; omega))).below hb1)
        have L2 := Lib.hid ((L.out.set 2 (.int .i64 lv) #[.int .i64 0, .int .i64 st, .int .i64 lv, .bool false, .int .i64 pg] rfl).below hb1)
        have O2 := Lib.hid ((O.out.other ⟨w.heap.size + 1 + 1 + 1, 2, none⟩ (.int .i64 lv) (by first | assumption | (simp; done) | (simp; omega))).below hb1)
        have B2 := Lib.hid (bel_trans (Below.setCell B.out (p := ⟨w.heap.size + 1 + 1 + 1, 2, none⟩) (by first | assumption | (simp; done) | (simp; omega)) (.int .i64 lv)) hb1)
        clear Lc2 Lz2 Mc0
        clear M Hh Ff L O B hb1
        have HZ3 := Lib.hid (cell_new w1 #[.int .i64 fr] 3 0)
        have HO3 := Lib.hid (O2.out.alloc (.cells #[.int .i64 fr] 3))
        have HS3 : Hid (w.heap.size + 4 ≤ (w1.alloc (.cells #[.int .i64 fr] 3)).heap.size) := by
          have := L2.out.lt
          show _ ≤ _
          simp
          omega
        go_wp2_with (at_builtin; refine wpList_pushI rfl _ _ rfl (w.heap.size + 4) _ (R) rfl HO3.out w1.heap.size 1 (fr) rfl HZ3.out (by omega) HS3.out ?_; intro fp3 cp3 w3 hO3 hb3; have M3 := Lib.hid ((M2.out.alloc (.cells #[.int .i64 fr] 3)).under hb3 (by omega)); have H3 := Lib.hid ((H2.out.alloc (.cells #[.int .i64 fr] 3)).under hb3 (by omega)); have F3 := Lib.hid ((F2.out.alloc (.cells #[.int .i64 fr] 3)).under hb3 (by omega)); have L3 := Lib.hid ((L2.out.alloc (.cells #[.int .i64 fr] 3)).under hb3 (by omega)); have O3 := Lib.hid (hO3); have B3 := Lib.hid ((bel_alloc B2.out (.cells #[.int .i64 fr] 3)).trans (hb3.mono (by omega))); clear M2 H2 F2 L2 O2 B2 hb3 hO3 HZ3 HO3 HS3; have Mc0 := M3.out.get 0 (.slice f l c) rfl)
        have HW := HX.out.below B3.out
        refine (tblR_any f l c X st lv fr pg _ HW (by omega) HP.out p0 p1 g0 (by have := HN8.out; omega)).mono ?_
        rintro e w4 ⟨rfl, hb4⟩
        clear HW
        have M5 := Lib.hid (M3.out.below hb4)
        have H5 := Lib.hid (H3.out.below hb4)
        have F5 := Lib.hid (F3.out.below hb4)
        have L5 := Lib.hid (L3.out.below hb4)
        have O5 := Lib.hid (O3.out.below hb4)
        have B5 := Lib.hid (bel_trans B3.out hb4)
        clear Mc0
        clear M3 H3 F3 L3 O3 B3 hb4
        have hG := L5.out.lt
        rw [← HT.out lv fr]
        rw [hd]
        have hkk : dk = 1 := hkd
        clear hkd
        subst hkk
        unfold dscV
        simp only
        go_wp2
        go_roundw
        have M7 := Lib.hid ((M5.out.alloc (.cells #[.int .i64 1, .int .i64 df, .bool dr, .bool dw, .bool dx, .bool da, .bool dn, .int .i64 ds, .int .i64 d0] 70)))
        have H7 := Lib.hid ((H5.out.alloc (.cells #[.int .i64 1, .int .i64 df, .bool dr, .bool dw, .bool dx, .bool da, .bool dn, .int .i64 ds, .int .i64 d0] 70)))
        have F7 := Lib.hid ((F5.out.alloc (.cells #[.int .i64 1, .int .i64 df, .bool dr, .bool dw, .bool dx, .bool da, .bool dn, .int .i64 ds, .int .i64 d0] 70)))
        have L7 := Lib.hid ((L5.out.alloc (.cells #[.int .i64 1, .int .i64 df, .bool dr, .bool dw, .bool dx, .bool da, .bool dn, .int .i64 ds, .int .i64 d0] 70)))
        have D7 := Lib.hid ((BoxAt.newAt _ #[.int .i64 1, .int .i64 df, .bool dr, .bool dw, .bool dx, .bool da, .bool dn, .int .i64 ds, .int .i64 d0] 70 (w4.heap.size) (by first | rfl | (simp; done) | (simp; omega))))
        have O7 := Lib.hid ((O5.out.alloc (.cells #[.int .i64 1, .int .i64 df, .bool dr, .bool dw, .bool dx, .bool da, .bool dn, .int .i64 ds, .int .i64 d0] 70)))
        have B7 := Lib.hid ((bel_alloc B5.out (.cells #[.int .i64 1, .int .i64 df, .bool dr, .bool dw, .bool dx, .bool da, .bool dn, .int .i64 ds, .int .i64 d0] 70)))
        clear M5 H5 F5 L5 O5 B5
        case rel => exact ⟨lv + 1, df, lv, R ++ [fr], fp3, cp3, by omega, by omega, hfd.1, hfd.2, by go_num, by go_num, by simp, by have := HR.out; simp; omega, by show ((R ++ [fr]).length : Int) = lv + 1; have := HR.out; simp; omega, M7.out, H7.out, F7.out, L7.out, B7.out, by show OwnI _ _ _ _; simpa using O7.out, HE.out⟩
        case measure => simp [intOf]; omega
      · have hk2 : (T lv fr).k = 2 := by rw [hd]; exact hkd
        by_cases hs : N ≤ (T lv fr).f + pg % cov lv
        · have HE := Lib.hid ((walkS_far hA hk2 hs).symm.trans HQ.out)
          rw [hd] at hs
          obtain ⟨dk, df, dr, dw, dx, da, dn, ds, d0⟩ := d
          simp only at hs
          generalize cov lv = cv at *
          have c0 : cv ≠ 0 := by omega
          have d1 : pg.tmod cv = pg % cv := Int.tmod_eq_emod_of_nonneg p0
          have d2 : 0 ≤ pg % cv := Int.emod_nonneg _ c0
          have d3 : pg % cv < 512 := by have := Int.emod_lt_of_pos pg (show 0 < cv by omega); omega
          have e1 : 0 ≤ df := hfd.1
          have e2 : df ≤ 4095 := hfd.2
          have d5 : IntKind.i64.wrap (df + pg % cv) = df + pg % cv := IntWalk.i64_in _ (by omega)
          generalize pg % cv = pm at *
          have j1 : 0 ≤ df + pm := by omega
          have dS : decide (N ≤ df + pm) = true := decide_eq_true hs
          have dA : decide (N ≤ fr) = false := decide_eq_false hA
          have Lc2 := L.out.get 2 (.int .i64 x) rfl
          have Lz2 := L.out.free 2
          have Mc0 := M.out.get 0 (.slice f l c) rfl
          go_wp2_with fail
          refine (HN.out _).mono ?_
          rintro e w1 ⟨rfl, hb1⟩
          have M2 := Lib.hid ((M.out.other ⟨w.heap.size + 1 + 1 + 1, 2, none⟩ (.int .i64 lv) (by first | assumption | (simp; done) | (simp; omega))).below hb1)
          have H2 := Lib.hid ((Hh.out.other ⟨w.heap.size + 1 + 1 + 1, 2, none⟩ (.int .i64 lv) (by first | assumption | (simp; done) | (simp; omega))).below hb1)
          have F2 := Lib.hid ((Ff.out.other ⟨w.heap.size + 1 + 1 + 1, 2, none⟩ (.int .i64 lv) (by first | assumption | (simp; done) | (simp; omega))).below hb1)
          have L2 := Lib.hid ((L.out.set 2 (.int .i64 lv) #[.int .i64 0, .int .i64 st, .int .i64 lv, .bool false, .int .i64 pg] rfl).below hb1)
          have O2 := Lib.hid ((O.out.other ⟨w.heap.size + 1 + 1 + 1, 2, none⟩ (.int .i64 lv) (by first | assumption | (simp; done) | (simp; omega))).below hb1)
          have B2 := Lib.hid (bel_trans (Below.setCell B.out (p := ⟨w.heap.size + 1 + 1 + 1, 2, none⟩) (by first | assumption | (simp; done) | (simp; omega)) (.int .i64 lv)) hb1)
          clear Lc2 Lz2 Mc0
          clear M Hh Ff L O B hb1
          have HZ3 := Lib.hid (cell_new w1 #[.int .i64 fr] 3 0)
          have HO3 := Lib.hid (O2.out.alloc (.cells #[.int .i64 fr] 3))
          have HS3 : Hid (w.heap.size + 4 ≤ (w1.alloc (.cells #[.int .i64 fr] 3)).heap.size) := by
            have := L2.out.lt
            show _ ≤ _
            simp
            omega
          go_wp2_with (at_builtin; refine wpList_pushI rfl _ _ rfl (w.heap.size + 4) _ (R) rfl HO3.out w1.heap.size 1 (fr) rfl HZ3.out (by omega) HS3.out ?_; intro fp3 cp3 w3 hO3 hb3; have M3 := Lib.hid ((M2.out.alloc (.cells #[.int .i64 fr] 3)).under hb3 (by omega)); have H3 := Lib.hid ((H2.out.alloc (.cells #[.int .i64 fr] 3)).under hb3 (by omega)); have F3 := Lib.hid ((F2.out.alloc (.cells #[.int .i64 fr] 3)).under hb3 (by omega)); have L3 := Lib.hid ((L2.out.alloc (.cells #[.int .i64 fr] 3)).under hb3 (by omega)); have O3 := Lib.hid (hO3); have B3 := Lib.hid ((bel_alloc B2.out (.cells #[.int .i64 fr] 3)).trans (hb3.mono (by omega))); clear M2 H2 F2 L2 O2 B2 hb3 hO3 HZ3 HO3 HS3; have Mc0 := M3.out.get 0 (.slice f l c) rfl)
          have HW := HX.out.below B3.out
          refine (tblR_any f l c X st lv fr pg _ HW (by omega) HP.out p0 p1 g0 (by have := HN8.out; omega)).mono ?_
          rintro e w4 ⟨rfl, hb4⟩
          clear HW
          have M5 := Lib.hid (M3.out.below hb4)
          have H5 := Lib.hid (H3.out.below hb4)
          have F5 := Lib.hid (F3.out.below hb4)
          have L5 := Lib.hid (L3.out.below hb4)
          have O5 := Lib.hid (O3.out.below hb4)
          have B5 := Lib.hid (bel_trans B3.out hb4)
          clear Mc0
          clear M3 H3 F3 L3 O3 B3 hb4
          have hG := L5.out.lt
          rw [← HT.out lv fr]
          rw [hd]
          have hkk : dk = 2 := hkd
          clear hkd
          subst hkk
          unfold dscV
          simp only
          go_upto_region 17 with fail
          have M6 := Lib.hid ((M5.out.alloc (.cells #[.int .i64 2, .int .i64 df, .bool dr, .bool dw, .bool dx, .bool da, .bool dn, .int .i64 ds, .int .i64 d0] 70)))
          have H6 := Lib.hid ((H5.out.alloc (.cells #[.int .i64 2, .int .i64 df, .bool dr, .bool dw, .bool dx, .bool da, .bool dn, .int .i64 ds, .int .i64 d0] 70)))
          have F6 := Lib.hid ((F5.out.alloc (.cells #[.int .i64 2, .int .i64 df, .bool dr, .bool dw, .bool dx, .bool da, .bool dn, .int .i64 ds, .int .i64 d0] 70)))
          have L6 := Lib.hid ((L5.out.alloc (.cells #[.int .i64 2, .int .i64 df, .bool dr, .bool dw, .bool dx, .bool da, .bool dn, .int .i64 ds, .int .i64 d0] 70)))
          have D6 := Lib.hid ((BoxAt.newAt _ #[.int .i64 2, .int .i64 df, .bool dr, .bool dw, .bool dx, .bool da, .bool dn, .int .i64 ds, .int .i64 d0] 70 (w4.heap.size) (by first | rfl | (simp; done) | (simp; omega))))
          have O6 := Lib.hid ((O5.out.alloc (.cells #[.int .i64 2, .int .i64 df, .bool dr, .bool dw, .bool dx, .bool da, .bool dn, .int .i64 ds, .int .i64 d0] 70)))
          have B6 := Lib.hid ((bel_alloc B5.out (.cells #[.int .i64 2, .int .i64 df, .bool dr, .bool dw, .bool dx, .bool da, .bool dn, .int .i64 ds, .int .i64 d0] 70)))
          clear M5 H5 F5 L5 O5 B5
          obtain ⟨W8, hW8⟩ : ∃ W8, W8 = w4.alloc (.cells #[.int .i64 2, .int .i64 df, .bool dr, .bool dw, .bool dx, .bool da, .bool dn, .int .i64 ds, .int .i64 d0] 70) := ⟨_, rfl⟩
          obtain ⟨G8, hG8⟩ : ∃ G8, G8 = w4.heap.size := ⟨_, rfl⟩
          rw [← hW8] at M6 H6 F6 L6 D6 B6 O6 ⊢
          clear hW8
          rw [← hG8] at D6 hG ⊢
          clear hG8
          have Dc1 := D6.out.get 1 (.int .i64 df) rfl
          go_region_held3 (fun w' => w'.cell? ⟨G8, 1, none⟩ = some (.int .i64 df))
            (first | exact Dc1 | exact (keepc hb17 Dc1))
            ((go_at_call 29; refine (HC.out _).mono ?_; rintro e w17 ⟨rfl, hb17⟩))
          have M7 := Lib.hid ((M6.out.drew).below hb17)
          have H7 := Lib.hid ((H6.out.drew).below hb17)
          have F7 := Lib.hid ((F6.out.drew).below hb17)
          have L7 := Lib.hid ((L6.out.drew).below hb17)
          have D7 := Lib.hid ((D6.out.drew).below hb17)
          have O7 := Lib.hid ((O6.out.drew).below hb17)
          have B7 := Lib.hid (bel_trans (Below.drew B6.out) hb17)
          clear Dc1
          clear M6 H6 F6 L6 D6 O6 B6 hb17
          have Mc0 := M7.out.get 0 (.slice f l c) rfl
          go_wp2_with fail
          refine (HN.out _).mono ?_
          rintro e w8 ⟨rfl, hb8⟩
          have M9 := Lib.hid (M7.out.below hb8)
          have H9 := Lib.hid (H7.out.below hb8)
          have F9 := Lib.hid (F7.out.below hb8)
          have L9 := Lib.hid (L7.out.below hb8)
          have D9 := Lib.hid (D7.out.below hb8)
          have O9 := Lib.hid (O7.out.below hb8)
          have B9 := Lib.hid (bel_trans B7.out hb8)
          clear Mc0
          clear M7 H7 F7 L7 D7 O7 B7 hb8
          have Lc0 := L9.out.get 0 (.int .i64 0) rfl
          have Lz0 := L9.out.free 0
          go_upto_region 20 with fail
          have M10 := Lib.hid ((M9.out.other ⟨w.heap.size + 1 + 1 + 1, 0, none⟩ (.int .i64 1) (by first | assumption | (simp; done) | (simp; omega))))
          have H10 := Lib.hid ((H9.out.other ⟨w.heap.size + 1 + 1 + 1, 0, none⟩ (.int .i64 1) (by first | assumption | (simp; done) | (simp; omega))))
          have F10 := Lib.hid ((F9.out.other ⟨w.heap.size + 1 + 1 + 1, 0, none⟩ (.int .i64 1) (by first | assumption | (simp; done) | (simp; omega))))
          have L10 := Lib.hid ((L9.out.set 0 (.int .i64 1) #[.int .i64 1, .int .i64 st, .int .i64 lv, .bool false, .int .i64 pg] rfl))
          have D10 := Lib.hid ((D9.out.other ⟨w.heap.size + 1 + 1 + 1, 0, none⟩ (.int .i64 1) (by first | assumption | (simp; done) | (simp; omega))))
          have O10 := Lib.hid ((O9.out.other ⟨w.heap.size + 1 + 1 + 1, 0, none⟩ (.int .i64 1) (by first | assumption | (simp; done) | (simp; omega))))
          have B10 := Lib.hid ((Below.setCell B9.out (p := ⟨w.heap.size + 1 + 1 + 1, 0, none⟩) (by first | assumption | (simp; done) | (simp; omega)) (.int .i64 1)))
          clear Lc0 Lz0
          clear M9 H9 F9 L9 D9 O9 B9
          obtain ⟨W9, hW9⟩ : ∃ W9, W9 = _ := ⟨w8.setCell ⟨w.heap.size + 1 + 1 + 1, 0, none⟩ (.int .i64 1), rfl⟩
          rw [← hW9] at M10 H10 F10 L10 D10 B10 O10 ⊢
          clear hW9
          have Lc0 := L10.out.get 0 (.int .i64 1) rfl
          have Lc1 := L10.out.get 1 (.int .i64 st) rfl
          have Lc2 := L10.out.get 2 (.int .i64 lv) rfl
          have Lc3 := L10.out.get 3 (.bool false) rfl
          have Lc4 := L10.out.get 4 (.int .i64 pg) rfl
          have Hc0 := H10.out.get 0 (.int .i64 0) rfl
          have Hc1 := H10.out.get 1 (.int .i64 0) rfl
          have Hc2 := H10.out.get 2 (.bool false) rfl
          have Hc3 := H10.out.get 3 (.bool false) rfl
          have Hc4 := H10.out.get 4 (.bool false) rfl
          have Hc5 := H10.out.get 5 (.bool false) rfl
          have Hc6 := H10.out.get 6 (.bool false) rfl
          have Hc7 := H10.out.get 7 (.int .i64 0) rfl
          have Hc8 := H10.out.get 8 (.int .i64 0) rfl
          have Hz0 := H10.out.free 0
          have Hz1 := H10.out.free 1
          have Hz2 := H10.out.free 2
          have Hz3 := H10.out.free 3
          have Hz4 := H10.out.free 4
          have Hz5 := H10.out.free 5
          have Hz6 := H10.out.free 6
          have Hz7 := H10.out.free 7
          have Hz8 := H10.out.free 8
          have Fc0 := F10.out.get 0 (.int .i64 0) rfl
          have Fc1 := F10.out.get 1 (.int .i64 0) rfl
          have Fc2 := F10.out.get 2 (.int .i64 0) rfl
          have Fc3 := F10.out.get 3 (.bool false) rfl
          have Fc4 := F10.out.get 4 (.int .i64 0) rfl
          have Fz0 := F10.out.free 0
          have Fz1 := F10.out.free 1
          have Fz2 := F10.out.free 2
          have Fz3 := F10.out.free 3
          have Fz4 := F10.out.free 4
          go_region_held3 (fun w' => w'.cell? ⟨w.heap.size + 1 + 1 + 1, 0, none⟩ = some (.int .i64 1) ∧ w'.cell? ⟨w.heap.size + 1 + 1 + 1, 1, none⟩ = some (.int .i64 st) ∧ w'.cell? ⟨w.heap.size + 1 + 1 + 1, 2, none⟩ = some (.int .i64 lv) ∧ w'.cell? ⟨w.heap.size + 1 + 1 + 1, 3, none⟩ = some (.bool false) ∧ w'.cell? ⟨w.heap.size + 1 + 1 + 1, 4, none⟩ = some (.int .i64 pg))
            (refine ⟨?_, ?_, ?_, ?_, ?_⟩ <;> (repeat (first | with_reducible assumption | with_reducible refine cell_keep ?_ _ | with_reducible refine cell_drew ?_ | with_reducible refine cell_set _ (by first | assumption | (simp; done) | omega) ?_)))
            (first | fail)
          go_wp2
          refine bodyPost_ret (v := .tuple #[.agg #[.int .i64 0, .int .i64 0, .bool false, .bool false, .bool false, .bool false, .bool false, .int .i64 0, .int .i64 0], .agg #[.int .i64 1, .int .i64 st, .int .i64 lv, .bool false, .int .i64 pg], .slice fp3 ((R.length + 1)) cp3]) (by simp [results, Tryz.results21, go_sem, Hc0, Hc1, Hc2, Hc3, Hc4, Hc5, Hc6, Hc7, Hc8, Fc0, Fc1, Fc2, Fc3, Fc4]) rfl ?_
          refine WalkEnd.mk' HE.out (hh := hit0) (ff := ⟨1, st, lv, false, pg⟩) (R := R ++ [fr]) rfl (by first | rfl | simp) ?_ (show w.heap.size ≤ w.heap.size + 4 by omega) ?_
          · repeat' (first | with_reducible exact O10.out | with_reducible refine OwnI.other ?_ _ _ (by first | (simp; done) | (simp; omega)) | with_reducible refine OwnI.drew ?_)
          · repeat' (first | with_reducible exact B10.out | with_reducible refine Below.setCell ?_ (by first | (simp; done) | (simp; omega)) _ | with_reducible refine Below.drew ?_)
        · have HE := Lib.hid ((walkS_leaf hA hk2 hs).symm.trans HQ.out)
          rw [hd] at HE hs
          obtain ⟨dk, df, dr, dw, dx, da, dn, ds, d0⟩ := d
          simp only at hs HE
          generalize cov lv = cv at *
          have c0 : cv ≠ 0 := by omega
          have d1 : pg.tmod cv = pg % cv := Int.tmod_eq_emod_of_nonneg p0
          have d2 : 0 ≤ pg % cv := Int.emod_nonneg _ c0
          have d3 : pg % cv < 512 := by have := Int.emod_lt_of_pos pg (show 0 < cv by omega); omega
          have e1 : 0 ≤ df := hfd.1
          have e2 : df ≤ 4095 := hfd.2
          have d5 : IntKind.i64.wrap (df + pg % cv) = df + pg % cv := IntWalk.i64_in _ (by omega)
          generalize pg % cv = pm at *
          have j1 : 0 ≤ df + pm := by omega
          have dS : decide (N ≤ df + pm) = false := decide_eq_false hs
          have dA : decide (N ≤ fr) = false := decide_eq_false hA
          have Lc2 := L.out.get 2 (.int .i64 x) rfl
          have Lz2 := L.out.free 2
          have Mc0 := M.out.get 0 (.slice f l c) rfl
          go_wp2_with fail
          refine (HN.out _).mono ?_
          rintro e w1 ⟨rfl, hb1⟩
          have M2 := Lib.hid ((M.out.other ⟨w.heap.size + 1 + 1 + 1, 2, none⟩ (.int .i64 lv) (by first | assumption | (simp; done) | (simp; omega))).below hb1)
          have H2 := Lib.hid ((Hh.out.other ⟨w.heap.size + 1 + 1 + 1, 2, none⟩ (.int .i64 lv) (by first | assumption | (simp; done) | (simp; omega))).below hb1)
          have F2 := Lib.hid ((Ff.out.other ⟨w.heap.size + 1 + 1 + 1, 2, none⟩ (.int .i64 lv) (by first | assumption | (simp; done) | (simp; omega))).below hb1)
          have L2 := Lib.hid ((L.out.set 2 (.int .i64 lv) #[.int .i64 0, .int .i64 st, .int .i64 lv, .bool false, .int .i64 pg] rfl).below hb1)
          have O2 := Lib.hid ((O.out.other ⟨w.heap.size + 1 + 1 + 1, 2, none⟩ (.int .i64 lv) (by first | assumption | (simp; done) | (simp; omega))).below hb1)
          have B2 := Lib.hid (bel_trans (Below.setCell B.out (p := ⟨w.heap.size + 1 + 1 + 1, 2, none⟩) (by first | assumption | (simp; done) | (simp; omega)) (.int .i64 lv)) hb1)
          clear Lc2 Lz2 Mc0
          clear M Hh Ff L O B hb1
          have HZ3 := Lib.hid (cell_new w1 #[.int .i64 fr] 3 0)
          have HO3 := Lib.hid (O2.out.alloc (.cells #[.int .i64 fr] 3))
          have HS3 : Hid (w.heap.size + 4 ≤ (w1.alloc (.cells #[.int .i64 fr] 3)).heap.size) := by
            have := L2.out.lt
            show _ ≤ _
            simp
            omega
          go_wp2_with (at_builtin; refine wpList_pushI rfl _ _ rfl (w.heap.size + 4) _ (R) rfl HO3.out w1.heap.size 1 (fr) rfl HZ3.out (by omega) HS3.out ?_; intro fp3 cp3 w3 hO3 hb3; have M3 := Lib.hid ((M2.out.alloc (.cells #[.int .i64 fr] 3)).under hb3 (by omega)); have H3 := Lib.hid ((H2.out.alloc (.cells #[.int .i64 fr] 3)).under hb3 (by omega)); have F3 := Lib.hid ((F2.out.alloc (.cells #[.int .i64 fr] 3)).under hb3 (by omega)); have L3 := Lib.hid ((L2.out.alloc (.cells #[.int .i64 fr] 3)).under hb3 (by omega)); have O3 := Lib.hid (hO3); have B3 := Lib.hid ((bel_alloc B2.out (.cells #[.int .i64 fr] 3)).trans (hb3.mono (by omega))); clear M2 H2 F2 L2 O2 B2 hb3 hO3 HZ3 HO3 HS3; have Mc0 := M3.out.get 0 (.slice f l c) rfl)
          have HW := HX.out.below B3.out
          refine (tblR_any f l c X st lv fr pg _ HW (by omega) HP.out p0 p1 g0 (by have := HN8.out; omega)).mono ?_
          rintro e w4 ⟨rfl, hb4⟩
          clear HW
          have M5 := Lib.hid (M3.out.below hb4)
          have H5 := Lib.hid (H3.out.below hb4)
          have F5 := Lib.hid (F3.out.below hb4)
          have L5 := Lib.hid (L3.out.below hb4)
          have O5 := Lib.hid (O3.out.below hb4)
          have B5 := Lib.hid (bel_trans B3.out hb4)
          clear Mc0
          clear M3 H3 F3 L3 O3 B3 hb4
          have hG := L5.out.lt
          rw [← HT.out lv fr]
          rw [hd]
          have hkk : dk = 2 := hkd
          clear hkd
          subst hkk
          unfold dscV
          simp only
          go_upto_region 17 with fail
          have M6 := Lib.hid ((M5.out.alloc (.cells #[.int .i64 2, .int .i64 df, .bool dr, .bool dw, .bool dx, .bool da, .bool dn, .int .i64 ds, .int .i64 d0] 70)))
          have H6 := Lib.hid ((H5.out.alloc (.cells #[.int .i64 2, .int .i64 df, .bool dr, .bool dw, .bool dx, .bool da, .bool dn, .int .i64 ds, .int .i64 d0] 70)))
          have F6 := Lib.hid ((F5.out.alloc (.cells #[.int .i64 2, .int .i64 df, .bool dr, .bool dw, .bool dx, .bool da, .bool dn, .int .i64 ds, .int .i64 d0] 70)))
          have L6 := Lib.hid ((L5.out.alloc (.cells #[.int .i64 2, .int .i64 df, .bool dr, .bool dw, .bool dx, .bool da, .bool dn, .int .i64 ds, .int .i64 d0] 70)))
          have D6 := Lib.hid ((BoxAt.newAt _ #[.int .i64 2, .int .i64 df, .bool dr, .bool dw, .bool dx, .bool da, .bool dn, .int .i64 ds, .int .i64 d0] 70 (w4.heap.size) (by first | rfl | (simp; done) | (simp; omega))))
          have O6 := Lib.hid ((O5.out.alloc (.cells #[.int .i64 2, .int .i64 df, .bool dr, .bool dw, .bool dx, .bool da, .bool dn, .int .i64 ds, .int .i64 d0] 70)))
          have B6 := Lib.hid ((bel_alloc B5.out (.cells #[.int .i64 2, .int .i64 df, .bool dr, .bool dw, .bool dx, .bool da, .bool dn, .int .i64 ds, .int .i64 d0] 70)))
          clear M5 H5 F5 L5 O5 B5
          obtain ⟨W8, hW8⟩ : ∃ W8, W8 = w4.alloc (.cells #[.int .i64 2, .int .i64 df, .bool dr, .bool dw, .bool dx, .bool da, .bool dn, .int .i64 ds, .int .i64 d0] 70) := ⟨_, rfl⟩
          obtain ⟨G8, hG8⟩ : ∃ G8, G8 = w4.heap.size := ⟨_, rfl⟩
          rw [← hW8] at M6 H6 F6 L6 D6 B6 O6 ⊢
          clear hW8
          rw [← hG8] at D6 hG ⊢
          clear hG8
          have Dc1 := D6.out.get 1 (.int .i64 df) rfl
          go_region_held3 (fun w' => w'.cell? ⟨G8, 1, none⟩ = some (.int .i64 df))
            (first | exact Dc1 | exact (keepc hb17 Dc1))
            ((go_at_call 29; refine (HC.out _).mono ?_; rintro e w17 ⟨rfl, hb17⟩))
          have M7 := Lib.hid ((M6.out.drew).below hb17)
          have H7 := Lib.hid ((H6.out.drew).below hb17)
          have F7 := Lib.hid ((F6.out.drew).below hb17)
          have L7 := Lib.hid ((L6.out.drew).below hb17)
          have D7 := Lib.hid ((D6.out.drew).below hb17)
          have O7 := Lib.hid ((O6.out.drew).below hb17)
          have B7 := Lib.hid (bel_trans (Below.drew B6.out) hb17)
          clear Dc1
          clear M6 H6 F6 L6 D6 O6 B6 hb17
          have Mc0 := M7.out.get 0 (.slice f l c) rfl
          go_wp2_with fail
          refine (HN.out _).mono ?_
          rintro e w8 ⟨rfl, hb8⟩
          have M9 := Lib.hid (M7.out.below hb8)
          have H9 := Lib.hid (H7.out.below hb8)
          have F9 := Lib.hid (F7.out.below hb8)
          have L9 := Lib.hid (L7.out.below hb8)
          have D9 := Lib.hid (D7.out.below hb8)
          have O9 := Lib.hid (O7.out.below hb8)
          have B9 := Lib.hid (bel_trans B7.out hb8)
          clear Mc0
          clear M7 H7 F7 L7 D7 O7 B7 hb8
          have Dc2 := D9.out.get 2 (.bool dr) rfl
          have Dc3 := D9.out.get 3 (.bool dw) rfl
          have Dc4 := D9.out.get 4 (.bool dx) rfl
          have Dc5 := D9.out.get 5 (.bool da) rfl
          have Dc6 := D9.out.get 6 (.bool dn) rfl
          have Dc7 := D9.out.get 7 (.int .i64 ds) rfl
          have Hc0 := H9.out.get 0 (.int .i64 0) rfl
          have Hc1 := H9.out.get 1 (.int .i64 0) rfl
          have Hc2 := H9.out.get 2 (.bool false) rfl
          have Hc3 := H9.out.get 3 (.bool false) rfl
          have Hc4 := H9.out.get 4 (.bool false) rfl
          have Hc5 := H9.out.get 5 (.bool false) rfl
          have Hc6 := H9.out.get 6 (.bool false) rfl
          have Hc7 := H9.out.get 7 (.int .i64 0) rfl
          have Hc8 := H9.out.get 8 (.int .i64 0) rfl
          have Hz0 := H9.out.free 0
          have Hz1 := H9.out.free 1
          have Hz2 := H9.out.free 2
          have Hz3 := H9.out.free 3
          have Hz4 := H9.out.free 4
          have Hz5 := H9.out.free 5
          have Hz6 := H9.out.free 6
          have Hz7 := H9.out.free 7
          have Hz8 := H9.out.free 8
          have Fc0 := F9.out.get 0 (.int .i64 0) rfl
          have Fc1 := F9.out.get 1 (.int .i64 0) rfl
          have Fc2 := F9.out.get 2 (.int .i64 0) rfl
          have Fc3 := F9.out.get 3 (.bool false) rfl
          have Fc4 := F9.out.get 4 (.int .i64 0) rfl
          have Fz0 := F9.out.free 0
          have Fz1 := F9.out.free 1
          have Fz2 := F9.out.free 2
          have Fz3 := F9.out.free 3
          have Fz4 := F9.out.free 4
          go_wp2
          refine bodyPost_ret (v := .tuple #[.agg #[.int .i64 (df + pm), .int .i64 0, .bool dr, .bool dw, .bool dx, .bool da, .bool dn, .int .i64 ds, .int .i64 lv], .agg #[.int .i64 0, .int .i64 0, .int .i64 0, .bool false, .int .i64 0], .slice fp3 (R.length + 1) cp3]) (by simp [results, Tryz.results21, go_sem, Hc0, Hc1, Hc2, Hc3, Hc4, Hc5, Hc6, Hc7, Hc8, Fc0, Fc1, Fc2, Fc3, Fc4]) rfl ?_
          refine WalkEnd.mk' HE.out (hh := ⟨df + pm, 0, ⟨dr, dw, dx, da, dn, ds⟩, lv⟩) (ff := flt0) (R := R ++ [fr]) rfl (by first | rfl | simp) ?_ (show w.heap.size ≤ w.heap.size + 4 by omega) ?_
          · repeat' (first | with_reducible exact O9.out | with_reducible refine OwnI.other ?_ _ _ (by first | (simp; done) | (simp; omega)) | with_reducible refine OwnI.drew ?_)
          · repeat' (first | with_reducible exact B9.out | with_reducible refine Below.setCell ?_ (by first | (simp; done) | (simp; omega)) _ | with_reducible refine Below.drew ?_)
end Go.Proofs.YtalbblaicmdhmaaGreat
