/- The walk of NestTrans. -/
import Derived.Test.YtpelolokdmfbdaaGreatNw
import Derived.Test.YtpelolokdmfbdaaGreatTk
import Derived.Test.YtpelolokdmfbdaaGreatRk
import Derived.Test.YtpelolokdmfbdaaGreatNb
import Derived.Deep.CutBlock
import Derived.Deep.DeepCutAuto
namespace Go.Proofs.YtpelolokdmfbdaaGreat
open Go.ChangeShapes Go.WideShapes Go.ChangeAt Go.RowKit Go.Deep

set_option maxRecDepth 100000 in
theorem ntrans_heavy (f g : Option Addr) (l c n d : Nat) (fr : Int) (on1 : Bool) (of1 og1 : Int) (on2 : Bool) (tf tg ac : Int) (w : World) (hl : l ≤ 1000000000000000) (hn : n ≤ 1000000000000000) (hh : heavy5 l n = true) :
    Calls Tryz.prog 4 #[.agg #[.slice f l c, .int .i64 fr, .slice g n d, .bool on1, .int .i64 of1, .int .i64 og1, .bool on2, .int .i64 tf, .int .i64 tg, .int .i64 ac]] w fun e w' => e = .returned (.bool true) ∧ Below w.heap.size w w' := by
  have HH := Lib.hid (fun W => heavy5_any f g l c n d fr W hl hn)
  rw [hh] at HH
  clear hh
  go_enter Tryz.func4, Tryz.ntmps4
  go_wp2_with (go_at_call 9; refine (HH.out _).mono ?_; rintro e w1 ⟨rfl, hb1⟩)
  go_ret
  exact ⟨rfl, bel_trans (bel_alloc (Below.refl _ _) _) hb1⟩
set_option maxRecDepth 100000 in
set_option maxHeartbeats 12800000 in
theorem ntrans_walk (PT : TransC) (f g : Option Addr) (l c n d : Nat) (X : Nat → BitVec 64) (P : Nat → Int) (fr : Int) (on1 : Bool) (of1 og1 : Int) (on2 : Bool) (tf tg ac : Int) (w : World) (hX : WordsAt w f l X) (hP : NumsAt w g n P) (hlc : l ≤ c) (hh : heavy5 l n = false) :
    Calls Tryz.prog 4 #[.agg #[.slice f l c, .int .i64 fr, .slice g n d, .bool on1, .int .i64 of1, .int .i64 og1, .bool on2, .int .i64 tf, .int .i64 tg, .int .i64 ac]] w fun e w' => e = .returned (.bool true) ∧ Below w.heap.size w w' := by
  obtain ⟨hl, hn⟩ := heavy5_no hh
  have HH := Lib.hid (fun W => heavy5_any f g l c n d fr W (by omega) (by omega))
  rw [hh] at HH
  clear hh
  have HX := Lib.hid hX
  have HP := Lib.hid hP
  have HPM := Lib.hid (fun ob pg acc W h => PT f l c X ob of1 og1 on2 tf tg pg acc W (by omega) hlc h)
  have HW7 := Lib.hid (fun W => wakes7_any PT W)
  have HMY := Lib.hid (fun d pg acc W => may7_any f g l c n d fr on1 of1 og1 on2 tf tg ac pg acc W)
  have HMR := Lib.hid (fun ob pg acc W (hW : WordsAt W f l X) hM o0 o1 t0 t1 m0 m1 => transR_any f l c X ob of1 og1 on2 tf tg pg acc W hW hM o0 o1 t0 t1 m0 m1)
  have X0 := Lib.hid (BoxAt.new w #[.slice f l c, .int .i64 fr, .slice g n d, .bool on1, .int .i64 of1, .int .i64 og1, .bool on2, .int .i64 tf, .int .i64 tg, .int .i64 ac] 31)
  have B0 := Lib.hid (bel_alloc (Below.refl w.heap.size w) (.cells #[.slice f l c, .int .i64 fr, .slice g n d, .bool on1, .int .i64 of1, .int .i64 og1, .bool on2, .int .i64 tf, .int .i64 tg, .int .i64 ac] 31))
  clear hX hP PT
  go_enter Tryz.func4, Tryz.ntmps4
  go_wp2_with fail
  refine (HH.out _).mono ?_
  rintro e w1 ⟨rfl, hb1⟩
  have X1 := X0.out.below hb1
  have B1 := bel_trans B0.out hb1
  have HX1 := Lib.hid (HX.out.below B1)
  have HP1 := Lib.hid (HP.out.below B1)
  have X1 := Lib.hid X1
  have B1 := Lib.hid B1
  clear X0 B0 hb1 HX HP HH
  go_wp2_with fail
  go_loopw [3] (fun i wr => ∃ k : Nat, k ≤ n ∧ i = .int .i64 k ∧ Below w1.heap.size w1 wr) (fun i _ => n - (intOf i).toNat)
  case atStart => exact ⟨0, Nat.zero_le _, rfl, Below.refl _ _⟩
  case round =>
    obtain ⟨k, hk, rfl, hb⟩ := hrel
    have pc2 := (X1.out.below hb).get 2 (.slice g n d) rfl
    by_cases hlt : k < n ∧ k < 10
    · obtain ⟨hlt, hlt'⟩ := hlt
      have i1 : (0 : Int) ≤ (k : Int) := by omega
      have i2 : (k : Int) < (n : Int) := by omega
      have d10 : decide ((k : Int) < 10) = true := decide_eq_true (by omega)
      obtain ⟨gb, go, rfl, hpk0⟩ := HP1.out k hlt
      have hpk : w1.cell? ⟨gb, go + k, none⟩ = some (.int .i64 (P k)) := hpk0
      generalize P k = pg at *
      have HPK := Lib.hid hpk
      have HB0 := Lib.hid hb
      clear hb hpk0 hpk
      go_wp2_with fail
      clear pc2
      go_loopw [4] (fun t wi => ∃ acc : Int, -1 ≤ acc ∧ acc ≤ 4 ∧ t = .int .i64 acc ∧ Below w1.heap.size w1 wi) (fun t _ => (4 - intOf t).toNat)
      case atStart => exact ⟨-1, by decide, by decide, rfl, HB0.out⟩
      case round =>
        obtain ⟨acc, hs0, hs4, rfl, hb⟩ := hrel
        clear HB0
        by_cases hst : acc ≤ 3
        · have e3 : decide (acc ≤ 3) = true := decide_eq_true hst
          have HB1 := Lib.hid hb
          clear hb
          go_wp2_with fail
          go_loopw [5] (fun t wi => ∃ on : Int, 0 ≤ on ∧ on ≤ 2 ∧ t = .int .i64 on ∧ Below w1.heap.size w1 wi) (fun t _ => (2 - intOf t).toNat)
          case atStart => exact ⟨0, by decide, by decide, rfl, HB1.out⟩
          case round =>
            obtain ⟨on, hn0, hn2, rfl, hb⟩ := hrel
            clear HB1
            by_cases hot : on < 2
            · have e2 : decide (on < 2) = true := decide_eq_true hot
              obtain ⟨ob, hob⟩ : ∃ ob, (on == 1) = ob := ⟨_, rfl⟩
              have HT := Lib.hid (fun W h => HPM.out ob pg acc W h)
              have HMM := Lib.hid (fun W => HMY.out d pg acc W)
              have HPO := Lib.hid (fun W => page_any of1 W)
              have HB := Lib.hid hb
              have hws : w1.heap.size ≤ wr.heap.size := hb.size
              have X2 := Lib.hid (X1.out.below hb)
              have hpk2 := Lib.hid (keepc hb HPK.out)
              have HXc := Lib.hid (HX1.out.below hb)
              clear hb
              cases hA : mayN l tf pg acc
              · rw [hA] at HMM
                have hAO : (mayN l tf pg acc && numB of1 4095) = false := by rw [hA]; rfl
                simp only [transA_no hAO] at HT
                clear hA hAO HPO
                unfold Walk4End hitV fltV at HT
                simp only [hit0, flt0, atr0, List.length_nil] at HT
                have hq1 : eqH ⟨0, 0, ⟨false, false, false, false, false, 0⟩, 0⟩ ⟨0, 0, ⟨false, false, false, false, false, 0⟩, 0⟩ = true := eqH_self _
                have hq2 : eqF ⟨0, 0, 0, false, 0⟩ ⟨0, 0, 0, false, 0⟩ = true := eqF_self _
                have Pc3 := X2.out.get 3 (.bool on1) rfl
                have Pc4 := X2.out.get 4 (.int .i64 of1) rfl
                have Pc5 := X2.out.get 5 (.int .i64 og1) rfl
                have hneP : w.heap.size < wr.heap.size := X2.out.lt
                go_upto_region 14 with fail
                have P6 := Lib.hid ((X2.out.alloc (.cells #[.bool ob, .int .i64 of1, .int .i64 og1] 29)))
                have C6 := Lib.hid ((BoxAt.newAt (wr) #[.bool ob, .int .i64 of1, .int .i64 og1] 29 (wr.heap.size) (by first | rfl | (simp; done) | (simp; omega))))
                have B6 := Lib.hid ((bel_alloc HB.out (.cells #[.bool ob, .int .i64 of1, .int .i64 og1] 29)))
                clear Pc3 Pc4 Pc5
                clear X2 HB
                obtain ⟨W5, hW5⟩ : ∃ W5, W5 = (wr).alloc (.cells #[.bool ob, .int .i64 of1, .int .i64 og1] 29) := ⟨_, rfl⟩
                obtain ⟨bC, hbC⟩ : ∃ bC, bC = wr.heap.size := ⟨_, rfl⟩
                have hb5 := Lib.hid (show Below wr.heap.size wr W5 from by rw [hW5]; exact bel_alloc (Below.refl _ _) _)
                rw [← hW5] at P6 C6 B6 ⊢
                have hpk5 := Lib.hid (keepc hb5.out hpk2.out)
                have HXd := Lib.hid (HXc.out.below hb5.out)
                have hs5 : wr.heap.size ≤ W5.heap.size := hb5.out.size
                rw [← hbC] at C6 hneP ⊢
                clear hW5 hb5 hpk2 HXc hbC
                have Pk := P6.out
                have hlPk := Pk.lt
                have Ck := C6.out
                have hlCk := Ck.lt
                have hpkk := hpk5.out
                have hlGk : gb < W5.heap.size := cell_block hpkk
                go_upto_region 14 with fail
                go_cut [7, 8, 9, 10] (fun s7 s8 s9 s10 wx => ∃ (bH : Nat) (bF : Nat) (f' : Option Addr) (c' : Nat), s7 = .pointer (some ⟨bH, 0, none⟩) ∧ s8 = .pointer (some ⟨bF, 0, none⟩) ∧ s9 = .slice f' (0) c' ∧ s10 = .int .i64 1 ∧ W5.heap.size ≤ bH ∧ W5.heap.size ≤ bF ∧ bH ≠ bF ∧ Hid (Below W5.heap.size W5 wx) ∧ Hid (BoxAt wx bH z9 36) ∧ Hid (BoxAt wx bF z5 38) ∧ Hid (OwnI wx W5.heap.size (.slice f' (0) c') ([])))
                case first =>
                  rename_i JJ KK hJJ hKK
                  refine wp_region_table (X := Option Addr × Nat) (none, 0) (I0 := fun w' => Below W5.heap.size W5 w') (I1 := fun xJ w' => Below W5.heap.size W5 w' ∧ OwnI w' (W5.heap.size) (.slice xJ.1 (0) xJ.2) ([])) (lo := W5.heap.size) (c := 13) (U := [⟨(some 44), .con (.pointer (some ⟨w.heap.size, 0, none⟩))⟩, ⟨(some 45), .con (.pointer (some ⟨w.heap.size, 0, none⟩))⟩, ⟨(some 46), .ld (.agg #[.slice f l c])⟩, ⟨(some 47), .ld (.agg #[.bool ob, .int .i64 of1, .int .i64 og1])⟩, ⟨(some 48), .con (.pointer (some ⟨w.heap.size, 6, none⟩))⟩, ⟨(some 49), .ld (.agg #[.bool on2, .int .i64 tf, .int .i64 tg])⟩, ⟨(some 50), .con (.pointer (some ⟨w.heap.size, 0, none⟩))⟩, ⟨(some 51), .con (.pointer (some ⟨w.heap.size, 2, none⟩))⟩, ⟨(some 52), .ld (.slice (some ⟨gb, go, none⟩) n d)⟩, ⟨(some 53), .con (.int .i64 k)⟩, ⟨(some 54), .con (.pointer (some ⟨gb, go + k, none⟩))⟩, ⟨(some 55), .ld (.int .i64 pg)⟩, ⟨(some 56), .con (.int .i64 acc)⟩, ⟨(some 57), .cal fun xJ => .tuple #[.agg #[.int .i64 0, .int .i64 0, .bool false, .bool false, .bool false, .bool false, .bool false, .int .i64 0, .int .i64 0], .agg #[.int .i64 0, .int .i64 0, .int .i64 0, .bool false, .int .i64 0], .slice xJ.1 (0) xJ.2, .int .i64 1]⟩, ⟨(some 43), .res fun xJ => .tuple #[.agg #[.int .i64 0, .int .i64 0, .bool false, .bool false, .bool false, .bool false, .bool false, .int .i64 0, .int .i64 0], .agg #[.int .i64 0, .int .i64 0, .int .i64 0, .bool false, .int .i64 0], .slice xJ.1 (0) xJ.2, .int .i64 1]⟩, ⟨(some 58), .res fun xJ => .agg #[.int .i64 0, .int .i64 0, .bool false, .bool false, .bool false, .bool false, .bool false, .int .i64 0, .int .i64 0]⟩, ⟨(some 59), .res fun xJ => .agg #[.int .i64 0, .int .i64 0, .int .i64 0, .bool false, .int .i64 0]⟩, ⟨(some 60), .res fun xJ => .slice xJ.1 (0) xJ.2⟩, ⟨(some 61), .res fun xJ => .int .i64 1⟩, ⟨(some 7), .new 36 #[.int .i64 0, .int .i64 0, .bool false, .bool false, .bool false, .bool false, .bool false, .int .i64 0, .int .i64 0]⟩, ⟨(some 8), .new 38 #[.int .i64 0, .int .i64 0, .int .i64 0, .bool false, .int .i64 0]⟩, ⟨none, .sto 19 fun xJ => #[.int .i64 0, .int .i64 0, .bool false, .bool false, .bool false, .bool false, .bool false, .int .i64 0, .int .i64 0]⟩, ⟨none, .sto 20 fun xJ => #[.int .i64 0, .int .i64 0, .int .i64 0, .bool false, .int .i64 0]⟩, ⟨(some 9), .res fun xJ => .slice xJ.1 (0) xJ.2⟩, ⟨(some 10), .res fun xJ => .int .i64 1⟩])
                    (V := fun xJ => .tuple #[.agg #[.int .i64 0, .int .i64 0, .bool false, .bool false, .bool false, .bool false, .bool false, .int .i64 0, .int .i64 0], .agg #[.int .i64 0, .int .i64 0, .int .i64 0, .bool false, .int .i64 0], .slice xJ.1 (0) xJ.2, .int .i64 1]) (f := 17) (args := #[.agg #[.slice f l c], .agg #[.bool ob, .int .i64 of1, .int .i64 og1], .agg #[.bool on2, .int .i64 tf, .int .i64 tg], .int .i64 pg, .int .i64 acc]) (dc := some 57) (by kernel_rfl) (fun _ _ => rfl) (by kernel_rfl) (by kernel_rfl) rfl
                    (AllObl.all ⟨fun _ _ _ => by kernel_rfl, fun _ _ _ => by kernel_rfl, fun _ _ _ hJ => run_ldN 24 (.tmp 45) w.heap.size 0 (by kernel_rfl) (by kernel_rfl) Tryz.underlying24 rfl (by kernel_rfl) ((P6.out.below hJ).sub 0 _ rfl), fun _ _ _ hJ => run_ldN 29 (.tmp 6) bC 0 (by kernel_rfl) (by kernel_rfl) Tryz.underlying29 rfl (by kernel_rfl) ((C6.out.below hJ).sub 0 _ rfl), fun _ _ _ => by kernel_rfl, fun _ _ _ hJ => run_ldN 29 (.tmp 48) w.heap.size 6 (by kernel_rfl) (by kernel_rfl) Tryz.underlying29 rfl (by kernel_rfl) ((P6.out.below hJ).sub 6 _ rfl), fun _ _ _ => by kernel_rfl, fun _ _ _ => by kernel_rfl, fun _ _ _ hJ => run_ld1 25 (.tmp 51) w.heap.size 2 (by kernel_rfl) (by kernel_rfl) Tryz.underlying25 rfl ((P6.out.below hJ).get 2 (.slice (some ⟨gb, go, none⟩) n d) rfl), fun _ _ _ => by kernel_rfl, fun _ _ _ => run_ix1 25 3 (.tmp 52) (.tmp 53) gb go n d k (by kernel_rfl) (by kernel_rfl) (by kernel_rfl) Tryz.underlying25 (by kernel_rfl) hlt, fun _ _ _ hJ => run_ld1 3 (.tmp 54) gb (go + k) (by kernel_rfl) (by kernel_rfl) Tryz.underlying3 rfl (keepc hJ hpk5.out), fun _ _ _ => by kernel_rfl, trivial, fun _ _ _ => by kernel_rfl, fun _ _ _ => by kernel_rfl, fun _ _ _ => by kernel_rfl, fun _ _ _ => by kernel_rfl, fun _ _ _ => by kernel_rfl, fun _ _ _ => by kernel_rfl, fun _ _ _ => by kernel_rfl, ⟨_, _, _, rfl, fun _ _ _ hJ => run_stoB 36 (.tmp 7) (.tmp 58) _ (by kernel_rfl) (by kernel_rfl) (by kernel_rfl) (by kernel_rfl) (by rfl) (by simp [Value.oneCell']) hJ⟩, ⟨_, _, _, rfl, fun _ _ _ hJ => run_stoB 38 (.tmp 8) (.tmp 59) _ (by kernel_rfl) (by kernel_rfl) (by kernel_rfl) (by kernel_rfl) (by rfl) (by simp [Value.oneCell']) hJ⟩, fun _ _ _ => by kernel_rfl, fun _ _ _ => by kernel_rfl, trivial⟩)
                    (fun _ oJ hJ => bel_alloc hJ oJ) (fun xJ _ oJ hJ => ⟨bel_alloc hJ.1 oJ, hJ.2.alloc oJ⟩) (fun xJ _ bJ csJ dsJ tJ iJ zJ dJ hiJ hbJ hxJ hJ => ⟨Below.rowB (g := bJ) hJ.1 (cs := dsJ) hbJ, hJ.2.rowN (hJ.2.ne_box hxJ (fun eJ => newsOk_spec (bad := [3]) (by kernel_rfl) hiJ (by rw [eJ]; exact List.mem_cons_self ..)))⟩) (fun _ hJ => hJ.size) (fun xJ _ hJ => hJ.1.size) (fun _ _ _ _ => by kernel_rfl)
                    (fun wJ hJ => (HT.out _ (HXd.out.below hJ)).mono (by rintro _ w2J ⟨f', c', rfl, hN, hb⟩; exact ⟨(f', c'), rfl, ⟨bel_trans hJ hb, OwnI.mono hN hJ.size⟩, fun bJ csJ tJ iJ zJ dJ hiJ hlJ hxJ => hxJ.below hb⟩)) (Below.drew (Below.refl _ _)) ?_
                  rintro ⟨f', c'⟩ βJ w1c ⟨q1_0, q1_1⟩ hNW
                  obtain ⟨hbH1, QH1⟩ := hNW.full 19 21 (by kernel_rfl) rfl rfl
                  obtain ⟨hbF1, QF1⟩ := hNW.full 20 22 (by kernel_rfl) rfl rfl
                  have hn1_01 := hNW.ne 19 20 _ _ _ _ _ _ rfl rfl rfl rfl (by decide)
                  clear hNW
                  simp only [putU, if_true, Act.put, Knd.val, List.setIfInBounds_toArray, List.set_cons_zero, List.set_cons_succ]
                  show KK _ _
                  refine hKK _ _ (Met.intro (hJJ _ _ ?_))
                  (repeat apply Exists.intro)
                  refine ⟨?_, rfl⟩
                  exact ⟨βJ 19, βJ 20, f', c', rfl, rfl, rfl, rfl, hbH1, hbF1, hn1_01, Lib.hid q1_0, Lib.hid QH1, Lib.hid QF1, Lib.hid q1_1⟩
                case rest =>
                  clear Pk Ck hpkk hlPk hlCk hlGk
                  obtain ⟨bH, bF, f', c', rfl, rfl, rfl, rfl, hbH, hbF, hHF, HBx, H20, F20, O20⟩ := hcut
                  obtain ⟨w20, rfl⟩ : ∃ w20 : World, w20 = wc := ⟨_, rfl⟩
                  have hpk20 := Lib.hid (keepc HBx.out hpk5.out)
                  have HX20 := Lib.hid (HXd.out.below HBx.out)
                  have P20 := Lib.hid (P6.out.below HBx.out)
                  have C20 := Lib.hid (C6.out.below HBx.out)
                  have B20 := Lib.hid (bel_trans B6.out HBx.out)
                  have hs20 : W5.heap.size ≤ w20.heap.size := HBx.out.size
                  have hlH := H20.out.lt
                  have hlF := F20.out.lt
                  have hlP := P20.out.lt
                  have hlC := C20.out.lt
                  have hlG : gb < w20.heap.size := cell_block hpk20.out
                  have hx20 : w1.heap.size ≤ w20.heap.size := by omega
                  have HOB := Lib.hid (OwnI.blt O20.out)
                  clear HBx B6 P6 C6 hpk5 HXd HT
                  go_upto_region 19 with fail
                  have P21 := Lib.hid (((P20.out.alloc (.cells z9 36)).alloc (.cells z5 38)))
                  have C21 := Lib.hid (((C20.out.alloc (.cells z9 36)).alloc (.cells z5 38)))
                  have H21 := Lib.hid (((H20.out.alloc (.cells z9 36)).alloc (.cells z5 38)))
                  have F21 := Lib.hid (((F20.out.alloc (.cells z9 36)).alloc (.cells z5 38)))
                  have X21 := Lib.hid (((BoxAt.newAt (w20) z9 36 (w20.heap.size) (by first | rfl | (simp; done) | (simp; omega))).alloc (.cells z5 38)))
                  have Y21 := Lib.hid ((BoxAt.newAt ((w20).alloc (.cells z9 36)) z5 38 (w20.heap.size + 1) (by first | rfl | (simp; done) | (simp; omega))))
                  have O21 := Lib.hid (((O20.out.alloc (.cells z9 36)).alloc (.cells z5 38)))
                  have B21 := Lib.hid ((bel_alloc (bel_alloc B20.out (.cells z9 36)) (.cells z5 38)))
                  clear P20 C20 H20 F20 O20 B20
                  obtain ⟨W8, hW8⟩ : ∃ W8, W8 = (w20.alloc (.cells z9 36)).alloc (.cells z5 38) := ⟨_, rfl⟩
                  obtain ⟨bX, hbX⟩ : ∃ bX, bX = w20.heap.size := ⟨_, rfl⟩
                  have hb8 := Lib.hid (show Below w20.heap.size w20 W8 from by rw [hW8]; exact bel_alloc (bel_alloc (Below.refl _ _) _) _)
                  rw [← hW8] at P21 C21 H21 F21 X21 Y21 B21 O21 ⊢
                  rw [← hbX] at X21 Y21 HOB hlH hlF hlP hlC hlG hs20 hx20 ⊢
                  have hpk8 := Lib.hid (keepc hb8.out hpk20.out)
                  have HX8 := Lib.hid (HX20.out.below hb8.out)
                  clear hW8 hb8 hpk20 HX20 hbX
                  have Pk := P21.out
                  have hlPk := Pk.lt
                  have Ck := C21.out
                  have hlCk := Ck.lt
                  have hpkk := hpk8.out
                  have hlGk : gb < W8.heap.size := cell_block hpkk
                  refine wp_region_held_drew (S := (fun w' => BoxAt w' (w.heap.size) #[.slice f l c, .int .i64 fr, .slice (some ⟨gb, go, none⟩) n d, .bool on1, .int .i64 of1, .int .i64 og1, .bool on2, .int .i64 tf, .int .i64 tg, .int .i64 ac] 31 ∧ BoxAt w' (bC) #[.bool ob, .int .i64 of1, .int .i64 og1] 29 ∧ w'.cell? ⟨gb, go + k, none⟩ = some (.int .i64 pg))) (by kernel_rfl) ?_ (fun hS => ?_)
                  · (exact ⟨Pk.drew, Ck.drew, cell_drew hpkk⟩)
                  refine tkR 0 62 rfl hS (fun w' hSw => by have sP0 := (hSw.1).get 0 (.slice f l c) rfl; have sP1 := (hSw.1).get 1 (.int .i64 fr) rfl; have sP2 := (hSw.1).get 2 (.slice (some ⟨gb, go, none⟩) n d) rfl; have sP3 := (hSw.1).get 3 (.bool on1) rfl; have sP4 := (hSw.1).get 4 (.int .i64 of1) rfl; have sP5 := (hSw.1).get 5 (.int .i64 og1) rfl; have sP6 := (hSw.1).get 6 (.bool on2) rfl; have sP7 := (hSw.1).get 7 (.int .i64 tf) rfl; have sP8 := (hSw.1).get 8 (.int .i64 tg) rfl; have sP9 := (hSw.1).get 9 (.int .i64 ac) rfl; have sC0 := (hSw.2.1).get 0 (.bool ob) rfl; have sC1 := (hSw.2.1).get 1 (.int .i64 of1) rfl; have sC2 := (hSw.2.1).get 2 (.int .i64 og1) rfl; have sG := hSw.2.2; clear hSw; go_simp; try with_reducible rfl) ?_
                  simp only [pA, pB, pC]
                  refine tkR 1 63 rfl hS (fun w' _ => by go_simp; try with_reducible rfl) ?_
                  simp only [pA, pB, pC]
                  refine tkR 2 64 rfl hS (fun w' _ => by go_simp; try with_reducible rfl) ?_
                  simp only [pA, pB, pC]
                  refine tkR 3 65 rfl hS (fun w' hSw => by have sP0 := (hSw.1).get 0 (.slice f l c) rfl; have sP1 := (hSw.1).get 1 (.int .i64 fr) rfl; have sP2 := (hSw.1).get 2 (.slice (some ⟨gb, go, none⟩) n d) rfl; have sP3 := (hSw.1).get 3 (.bool on1) rfl; have sP4 := (hSw.1).get 4 (.int .i64 of1) rfl; have sP5 := (hSw.1).get 5 (.int .i64 og1) rfl; have sP6 := (hSw.1).get 6 (.bool on2) rfl; have sP7 := (hSw.1).get 7 (.int .i64 tf) rfl; have sP8 := (hSw.1).get 8 (.int .i64 tg) rfl; have sP9 := (hSw.1).get 9 (.int .i64 ac) rfl; have sC0 := (hSw.2.1).get 0 (.bool ob) rfl; have sC1 := (hSw.2.1).get 1 (.int .i64 of1) rfl; have sC2 := (hSw.2.1).get 2 (.int .i64 og1) rfl; have sG := hSw.2.2; clear hSw; go_simp; try with_reducible rfl) ?_
                  simp only [pA, pB, pC]
                  refine tkR 4 66 rfl hS (fun w' _ => by go_simp; try with_reducible rfl) ?_
                  simp only [pA, pB, pC]
                  refine tkR 5 67 rfl hS (fun w' _ => by go_simp; try with_reducible rfl) ?_
                  simp only [pA, pB, pC]
                  refine tkR 6 68 rfl hS (fun w' hSw => by have sP0 := (hSw.1).get 0 (.slice f l c) rfl; have sP1 := (hSw.1).get 1 (.int .i64 fr) rfl; have sP2 := (hSw.1).get 2 (.slice (some ⟨gb, go, none⟩) n d) rfl; have sP3 := (hSw.1).get 3 (.bool on1) rfl; have sP4 := (hSw.1).get 4 (.int .i64 of1) rfl; have sP5 := (hSw.1).get 5 (.int .i64 og1) rfl; have sP6 := (hSw.1).get 6 (.bool on2) rfl; have sP7 := (hSw.1).get 7 (.int .i64 tf) rfl; have sP8 := (hSw.1).get 8 (.int .i64 tg) rfl; have sP9 := (hSw.1).get 9 (.int .i64 ac) rfl; have sC0 := (hSw.2.1).get 0 (.bool ob) rfl; have sC1 := (hSw.2.1).get 1 (.int .i64 of1) rfl; have sC2 := (hSw.2.1).get 2 (.int .i64 og1) rfl; have sG := hSw.2.2; clear hSw; go_simp; try with_reducible rfl) ?_
                  simp only [pA, pB, pC]
                  refine tkR 7 69 rfl hS (fun w' _ => by go_simp; try with_reducible rfl) ?_
                  simp only [pA, pB, pC]
                  refine wpAnyH_ready (rs := [8]) (by kernel_rfl) (by simp) ?_
                  refine AllReadyH.cons (o := ⟨some 70, _, _, _, _, _⟩) rfl (fun K hK => ?_) AllReadyH.nil
                  go_simp
                  refine (HMM.out _).mono ?_
                  rintro e w14 ⟨rfl, hb14⟩
                  refine hK.out _ _ ?_ (fun hS' => ?_)
                  · (exact ⟨hS.1.below hb14, hS.2.1.below hb14, keepc hb14 hS.2.2⟩)
                  clear hK K hS
                  have hS := hS'
                  clear hS'
                  try simp only [Act.put, List.setIfInBounds_toArray, List.set_cons_zero, List.set_cons_succ]
                  refine tkR 9 71 rfl hS (fun w' _ => by go_simp; try with_reducible rfl) ?_
                  simp only [pA, pB, pC]
                  refine tkU 10 72 rfl hS ?_
                  simp only [pA, pB, pC]
                  refine tkU 11 73 rfl hS ?_
                  simp only [pA, pB, pC]
                  refine tkU 12 74 rfl hS ?_
                  simp only [pA, pB, pC]
                  refine tkR 13 75 rfl hS (fun w' _ => by go_simp; try with_reducible rfl) ?_
                  simp only [pA, pB, pC]
                  refine wpAnyH_done (by kernel_rfl) ?_ _
                  try simp only [Act.put, List.setIfInBounds_toArray, List.set_cons_zero, List.set_cons_succ]
                  clear hS
                  clear Pk Ck hpkk hlPk hlCk hlGk
                  have hpk9 := Lib.hid (keepc hb14 (cell_drew hpk8.out))
                  have HX9 := Lib.hid (HX8.out.below (Below.trans (Below.drew (Below.refl W8.heap.size W8)) hb14))
                  clear HX8 hpk8 HMM
                  have P31 := Lib.hid ((P21.out.drew).below hb14)
                  have C31 := Lib.hid ((C21.out.drew).below hb14)
                  have H31 := Lib.hid ((H21.out.drew).below hb14)
                  have F31 := Lib.hid ((F21.out.drew).below hb14)
                  have X31 := Lib.hid ((X21.out.drew).below hb14)
                  have Y31 := Lib.hid ((Y21.out.drew).below hb14)
                  have O31 := Lib.hid ((O21.out.drew).below hb14)
                  have B31 := Lib.hid (bel_trans (Below.drew B21.out) hb14)
                  clear P21 C21 H21 F21 X21 Y21 O21 B21 hb14
                  have Hc0 := H31.out.get 0 (.int .i64 0) rfl
                  have Hc1 := H31.out.get 1 (.int .i64 0) rfl
                  have Hc2 := H31.out.get 2 (.bool false) rfl
                  have Hc3 := H31.out.get 3 (.bool false) rfl
                  have Hc4 := H31.out.get 4 (.bool false) rfl
                  have Hc5 := H31.out.get 5 (.bool false) rfl
                  have Hc6 := H31.out.get 6 (.bool false) rfl
                  have Hc7 := H31.out.get 7 (.int .i64 0) rfl
                  have Hc8 := H31.out.get 8 (.int .i64 0) rfl
                  have Xc0 := X31.out.get 0 (.int .i64 0) rfl
                  have Xc1 := X31.out.get 1 (.int .i64 0) rfl
                  have Xc2 := X31.out.get 2 (.bool false) rfl
                  have Xc3 := X31.out.get 3 (.bool false) rfl
                  have Xc4 := X31.out.get 4 (.bool false) rfl
                  have Xc5 := X31.out.get 5 (.bool false) rfl
                  have Xc6 := X31.out.get 6 (.bool false) rfl
                  have Xc7 := X31.out.get 7 (.int .i64 0) rfl
                  have Xc8 := X31.out.get 8 (.int .i64 0) rfl
                  have Fc0 := F31.out.get 0 (.int .i64 0) rfl
                  have Fc1 := F31.out.get 1 (.int .i64 0) rfl
                  have Fc2 := F31.out.get 2 (.int .i64 0) rfl
                  have Fc3 := F31.out.get 3 (.bool false) rfl
                  have Fc4 := F31.out.get 4 (.int .i64 0) rfl
                  have Yc0 := Y31.out.get 0 (.int .i64 0) rfl
                  have Yc1 := Y31.out.get 1 (.int .i64 0) rfl
                  have Yc2 := Y31.out.get 2 (.int .i64 0) rfl
                  have Yc3 := Y31.out.get 3 (.bool false) rfl
                  have Yc4 := Y31.out.get 4 (.int .i64 0) rfl
                  go_wp2_with fail
                  refine (lnum7_any _ _).mono ?_
                  rintro e w32 ⟨rfl, rfl⟩
                  go_wp2_with fail
                  refine (eqI_any _ _ _ _ _ _ [] _ (by simp; try omega) (by simp) (by simp) O31.out.ints.2 (CellsAt.empty _ _ _)).mono ?_
                  rintro e w60 ⟨rfl, m60, rfl⟩
                  have BB := B31
                  clear Hc0 Hc1 Hc2 Hc3 Hc4 Hc5 Hc6 Hc7 Hc8 Xc0 Xc1 Xc2 Xc3 Xc4 Xc5 Xc6 Xc7 Xc8 Fc0 Fc1 Fc2 Fc3 Fc4 Yc0 Yc1 Yc2 Yc3 Yc4
                  go_wp2
                  go_roundw
                  case rel => exact ⟨on + 1, by omega, by omega, by go_num, below_drewN BB.out m60⟩
                  case measure => (simp [intOf] <;> omega)
              · cases hO : numB of1 4095
                · rw [hA] at HMM
                  rw [hO] at HPO
                  have hAO : (mayN l tf pg acc && numB of1 4095) = false := by rw [hA, hO]; rfl
                  simp only [transA_no hAO] at HT
                  clear hA hO hAO
                  unfold Walk4End hitV fltV at HT
                  simp only [hit0, flt0, atr0, List.length_nil] at HT
                  have hq1 : eqH ⟨0, 0, ⟨false, false, false, false, false, 0⟩, 0⟩ ⟨0, 0, ⟨false, false, false, false, false, 0⟩, 0⟩ = true := eqH_self _
                  have hq2 : eqF ⟨0, 0, 0, false, 0⟩ ⟨0, 0, 0, false, 0⟩ = true := eqF_self _
                  have Pc3 := X2.out.get 3 (.bool on1) rfl
                  have Pc4 := X2.out.get 4 (.int .i64 of1) rfl
                  have Pc5 := X2.out.get 5 (.int .i64 og1) rfl
                  have hneP : w.heap.size < wr.heap.size := X2.out.lt
                  go_upto_region 14 with fail
                  have P6 := Lib.hid ((X2.out.alloc (.cells #[.bool ob, .int .i64 of1, .int .i64 og1] 29)))
                  have C6 := Lib.hid ((BoxAt.newAt (wr) #[.bool ob, .int .i64 of1, .int .i64 og1] 29 (wr.heap.size) (by first | rfl | (simp; done) | (simp; omega))))
                  have B6 := Lib.hid ((bel_alloc HB.out (.cells #[.bool ob, .int .i64 of1, .int .i64 og1] 29)))
                  clear Pc3 Pc4 Pc5
                  clear X2 HB
                  obtain ⟨W5, hW5⟩ : ∃ W5, W5 = (wr).alloc (.cells #[.bool ob, .int .i64 of1, .int .i64 og1] 29) := ⟨_, rfl⟩
                  obtain ⟨bC, hbC⟩ : ∃ bC, bC = wr.heap.size := ⟨_, rfl⟩
                  have hb5 := Lib.hid (show Below wr.heap.size wr W5 from by rw [hW5]; exact bel_alloc (Below.refl _ _) _)
                  rw [← hW5] at P6 C6 B6 ⊢
                  have hpk5 := Lib.hid (keepc hb5.out hpk2.out)
                  have HXd := Lib.hid (HXc.out.below hb5.out)
                  have hs5 : wr.heap.size ≤ W5.heap.size := hb5.out.size
                  rw [← hbC] at C6 hneP ⊢
                  clear hW5 hb5 hpk2 HXc hbC
                  have Pk := P6.out
                  have hlPk := Pk.lt
                  have Ck := C6.out
                  have hlCk := Ck.lt
                  have hpkk := hpk5.out
                  have hlGk : gb < W5.heap.size := cell_block hpkk
                  go_upto_region 14 with fail
                  go_cut [7, 8, 9, 10] (fun s7 s8 s9 s10 wx => ∃ (bH : Nat) (bF : Nat) (f' : Option Addr) (c' : Nat), s7 = .pointer (some ⟨bH, 0, none⟩) ∧ s8 = .pointer (some ⟨bF, 0, none⟩) ∧ s9 = .slice f' (0) c' ∧ s10 = .int .i64 1 ∧ W5.heap.size ≤ bH ∧ W5.heap.size ≤ bF ∧ bH ≠ bF ∧ Hid (Below W5.heap.size W5 wx) ∧ Hid (BoxAt wx bH z9 36) ∧ Hid (BoxAt wx bF z5 38) ∧ Hid (OwnI wx W5.heap.size (.slice f' (0) c') ([])))
                  case first =>
                    rename_i JJ KK hJJ hKK
                    refine wp_region_table (X := Option Addr × Nat) (none, 0) (I0 := fun w' => Below W5.heap.size W5 w') (I1 := fun xJ w' => Below W5.heap.size W5 w' ∧ OwnI w' (W5.heap.size) (.slice xJ.1 (0) xJ.2) ([])) (lo := W5.heap.size) (c := 13) (U := [⟨(some 44), .con (.pointer (some ⟨w.heap.size, 0, none⟩))⟩, ⟨(some 45), .con (.pointer (some ⟨w.heap.size, 0, none⟩))⟩, ⟨(some 46), .ld (.agg #[.slice f l c])⟩, ⟨(some 47), .ld (.agg #[.bool ob, .int .i64 of1, .int .i64 og1])⟩, ⟨(some 48), .con (.pointer (some ⟨w.heap.size, 6, none⟩))⟩, ⟨(some 49), .ld (.agg #[.bool on2, .int .i64 tf, .int .i64 tg])⟩, ⟨(some 50), .con (.pointer (some ⟨w.heap.size, 0, none⟩))⟩, ⟨(some 51), .con (.pointer (some ⟨w.heap.size, 2, none⟩))⟩, ⟨(some 52), .ld (.slice (some ⟨gb, go, none⟩) n d)⟩, ⟨(some 53), .con (.int .i64 k)⟩, ⟨(some 54), .con (.pointer (some ⟨gb, go + k, none⟩))⟩, ⟨(some 55), .ld (.int .i64 pg)⟩, ⟨(some 56), .con (.int .i64 acc)⟩, ⟨(some 57), .cal fun xJ => .tuple #[.agg #[.int .i64 0, .int .i64 0, .bool false, .bool false, .bool false, .bool false, .bool false, .int .i64 0, .int .i64 0], .agg #[.int .i64 0, .int .i64 0, .int .i64 0, .bool false, .int .i64 0], .slice xJ.1 (0) xJ.2, .int .i64 1]⟩, ⟨(some 43), .res fun xJ => .tuple #[.agg #[.int .i64 0, .int .i64 0, .bool false, .bool false, .bool false, .bool false, .bool false, .int .i64 0, .int .i64 0], .agg #[.int .i64 0, .int .i64 0, .int .i64 0, .bool false, .int .i64 0], .slice xJ.1 (0) xJ.2, .int .i64 1]⟩, ⟨(some 58), .res fun xJ => .agg #[.int .i64 0, .int .i64 0, .bool false, .bool false, .bool false, .bool false, .bool false, .int .i64 0, .int .i64 0]⟩, ⟨(some 59), .res fun xJ => .agg #[.int .i64 0, .int .i64 0, .int .i64 0, .bool false, .int .i64 0]⟩, ⟨(some 60), .res fun xJ => .slice xJ.1 (0) xJ.2⟩, ⟨(some 61), .res fun xJ => .int .i64 1⟩, ⟨(some 7), .new 36 #[.int .i64 0, .int .i64 0, .bool false, .bool false, .bool false, .bool false, .bool false, .int .i64 0, .int .i64 0]⟩, ⟨(some 8), .new 38 #[.int .i64 0, .int .i64 0, .int .i64 0, .bool false, .int .i64 0]⟩, ⟨none, .sto 19 fun xJ => #[.int .i64 0, .int .i64 0, .bool false, .bool false, .bool false, .bool false, .bool false, .int .i64 0, .int .i64 0]⟩, ⟨none, .sto 20 fun xJ => #[.int .i64 0, .int .i64 0, .int .i64 0, .bool false, .int .i64 0]⟩, ⟨(some 9), .res fun xJ => .slice xJ.1 (0) xJ.2⟩, ⟨(some 10), .res fun xJ => .int .i64 1⟩])
                      (V := fun xJ => .tuple #[.agg #[.int .i64 0, .int .i64 0, .bool false, .bool false, .bool false, .bool false, .bool false, .int .i64 0, .int .i64 0], .agg #[.int .i64 0, .int .i64 0, .int .i64 0, .bool false, .int .i64 0], .slice xJ.1 (0) xJ.2, .int .i64 1]) (f := 17) (args := #[.agg #[.slice f l c], .agg #[.bool ob, .int .i64 of1, .int .i64 og1], .agg #[.bool on2, .int .i64 tf, .int .i64 tg], .int .i64 pg, .int .i64 acc]) (dc := some 57) (by kernel_rfl) (fun _ _ => rfl) (by kernel_rfl) (by kernel_rfl) rfl
                      (AllObl.all ⟨fun _ _ _ => by kernel_rfl, fun _ _ _ => by kernel_rfl, fun _ _ _ hJ => run_ldN 24 (.tmp 45) w.heap.size 0 (by kernel_rfl) (by kernel_rfl) Tryz.underlying24 rfl (by kernel_rfl) ((P6.out.below hJ).sub 0 _ rfl), fun _ _ _ hJ => run_ldN 29 (.tmp 6) bC 0 (by kernel_rfl) (by kernel_rfl) Tryz.underlying29 rfl (by kernel_rfl) ((C6.out.below hJ).sub 0 _ rfl), fun _ _ _ => by kernel_rfl, fun _ _ _ hJ => run_ldN 29 (.tmp 48) w.heap.size 6 (by kernel_rfl) (by kernel_rfl) Tryz.underlying29 rfl (by kernel_rfl) ((P6.out.below hJ).sub 6 _ rfl), fun _ _ _ => by kernel_rfl, fun _ _ _ => by kernel_rfl, fun _ _ _ hJ => run_ld1 25 (.tmp 51) w.heap.size 2 (by kernel_rfl) (by kernel_rfl) Tryz.underlying25 rfl ((P6.out.below hJ).get 2 (.slice (some ⟨gb, go, none⟩) n d) rfl), fun _ _ _ => by kernel_rfl, fun _ _ _ => run_ix1 25 3 (.tmp 52) (.tmp 53) gb go n d k (by kernel_rfl) (by kernel_rfl) (by kernel_rfl) Tryz.underlying25 (by kernel_rfl) hlt, fun _ _ _ hJ => run_ld1 3 (.tmp 54) gb (go + k) (by kernel_rfl) (by kernel_rfl) Tryz.underlying3 rfl (keepc hJ hpk5.out), fun _ _ _ => by kernel_rfl, trivial, fun _ _ _ => by kernel_rfl, fun _ _ _ => by kernel_rfl, fun _ _ _ => by kernel_rfl, fun _ _ _ => by kernel_rfl, fun _ _ _ => by kernel_rfl, fun _ _ _ => by kernel_rfl, fun _ _ _ => by kernel_rfl, ⟨_, _, _, rfl, fun _ _ _ hJ => run_stoB 36 (.tmp 7) (.tmp 58) _ (by kernel_rfl) (by kernel_rfl) (by kernel_rfl) (by kernel_rfl) (by rfl) (by simp [Value.oneCell']) hJ⟩, ⟨_, _, _, rfl, fun _ _ _ hJ => run_stoB 38 (.tmp 8) (.tmp 59) _ (by kernel_rfl) (by kernel_rfl) (by kernel_rfl) (by kernel_rfl) (by rfl) (by simp [Value.oneCell']) hJ⟩, fun _ _ _ => by kernel_rfl, fun _ _ _ => by kernel_rfl, trivial⟩)
                      (fun _ oJ hJ => bel_alloc hJ oJ) (fun xJ _ oJ hJ => ⟨bel_alloc hJ.1 oJ, hJ.2.alloc oJ⟩) (fun xJ _ bJ csJ dsJ tJ iJ zJ dJ hiJ hbJ hxJ hJ => ⟨Below.rowB (g := bJ) hJ.1 (cs := dsJ) hbJ, hJ.2.rowN (hJ.2.ne_box hxJ (fun eJ => newsOk_spec (bad := [3]) (by kernel_rfl) hiJ (by rw [eJ]; exact List.mem_cons_self ..)))⟩) (fun _ hJ => hJ.size) (fun xJ _ hJ => hJ.1.size) (fun _ _ _ _ => by kernel_rfl)
                      (fun wJ hJ => (HT.out _ (HXd.out.below hJ)).mono (by rintro _ w2J ⟨f', c', rfl, hN, hb⟩; exact ⟨(f', c'), rfl, ⟨bel_trans hJ hb, OwnI.mono hN hJ.size⟩, fun bJ csJ tJ iJ zJ dJ hiJ hlJ hxJ => hxJ.below hb⟩)) (Below.drew (Below.refl _ _)) ?_
                    rintro ⟨f', c'⟩ βJ w1c ⟨q1_0, q1_1⟩ hNW
                    obtain ⟨hbH1, QH1⟩ := hNW.full 19 21 (by kernel_rfl) rfl rfl
                    obtain ⟨hbF1, QF1⟩ := hNW.full 20 22 (by kernel_rfl) rfl rfl
                    have hn1_01 := hNW.ne 19 20 _ _ _ _ _ _ rfl rfl rfl rfl (by decide)
                    clear hNW
                    simp only [putU, if_true, Act.put, Knd.val, List.setIfInBounds_toArray, List.set_cons_zero, List.set_cons_succ]
                    show KK _ _
                    refine hKK _ _ (Met.intro (hJJ _ _ ?_))
                    (repeat apply Exists.intro)
                    refine ⟨?_, rfl⟩
                    exact ⟨βJ 19, βJ 20, f', c', rfl, rfl, rfl, rfl, hbH1, hbF1, hn1_01, Lib.hid q1_0, Lib.hid QH1, Lib.hid QF1, Lib.hid q1_1⟩
                  case rest =>
                    clear Pk Ck hpkk hlPk hlCk hlGk
                    obtain ⟨bH, bF, f', c', rfl, rfl, rfl, rfl, hbH, hbF, hHF, HBx, H20, F20, O20⟩ := hcut
                    obtain ⟨w20, rfl⟩ : ∃ w20 : World, w20 = wc := ⟨_, rfl⟩
                    have hpk20 := Lib.hid (keepc HBx.out hpk5.out)
                    have HX20 := Lib.hid (HXd.out.below HBx.out)
                    have P20 := Lib.hid (P6.out.below HBx.out)
                    have C20 := Lib.hid (C6.out.below HBx.out)
                    have B20 := Lib.hid (bel_trans B6.out HBx.out)
                    have hs20 : W5.heap.size ≤ w20.heap.size := HBx.out.size
                    have hlH := H20.out.lt
                    have hlF := F20.out.lt
                    have hlP := P20.out.lt
                    have hlC := C20.out.lt
                    have hlG : gb < w20.heap.size := cell_block hpk20.out
                    have hx20 : w1.heap.size ≤ w20.heap.size := by omega
                    have HOB := Lib.hid (OwnI.blt O20.out)
                    clear HBx B6 P6 C6 hpk5 HXd HT
                    go_upto_region 19 with fail
                    have P21 := Lib.hid (((P20.out.alloc (.cells z9 36)).alloc (.cells z5 38)))
                    have C21 := Lib.hid (((C20.out.alloc (.cells z9 36)).alloc (.cells z5 38)))
                    have H21 := Lib.hid (((H20.out.alloc (.cells z9 36)).alloc (.cells z5 38)))
                    have F21 := Lib.hid (((F20.out.alloc (.cells z9 36)).alloc (.cells z5 38)))
                    have X21 := Lib.hid (((BoxAt.newAt (w20) z9 36 (w20.heap.size) (by first | rfl | (simp; done) | (simp; omega))).alloc (.cells z5 38)))
                    have Y21 := Lib.hid ((BoxAt.newAt ((w20).alloc (.cells z9 36)) z5 38 (w20.heap.size + 1) (by first | rfl | (simp; done) | (simp; omega))))
                    have O21 := Lib.hid (((O20.out.alloc (.cells z9 36)).alloc (.cells z5 38)))
                    have B21 := Lib.hid ((bel_alloc (bel_alloc B20.out (.cells z9 36)) (.cells z5 38)))
                    clear P20 C20 H20 F20 O20 B20
                    obtain ⟨W8, hW8⟩ : ∃ W8, W8 = (w20.alloc (.cells z9 36)).alloc (.cells z5 38) := ⟨_, rfl⟩
                    obtain ⟨bX, hbX⟩ : ∃ bX, bX = w20.heap.size := ⟨_, rfl⟩
                    have hb8 := Lib.hid (show Below w20.heap.size w20 W8 from by rw [hW8]; exact bel_alloc (bel_alloc (Below.refl _ _) _) _)
                    rw [← hW8] at P21 C21 H21 F21 X21 Y21 B21 O21 ⊢
                    rw [← hbX] at X21 Y21 HOB hlH hlF hlP hlC hlG hs20 hx20 ⊢
                    have hpk8 := Lib.hid (keepc hb8.out hpk20.out)
                    have HX8 := Lib.hid (HX20.out.below hb8.out)
                    clear hW8 hb8 hpk20 HX20 hbX
                    have Pk := P21.out
                    have hlPk := Pk.lt
                    have Ck := C21.out
                    have hlCk := Ck.lt
                    have hpkk := hpk8.out
                    have hlGk : gb < W8.heap.size := cell_block hpkk
                    refine wp_region_held_drew (S := (fun w' => BoxAt w' (w.heap.size) #[.slice f l c, .int .i64 fr, .slice (some ⟨gb, go, none⟩) n d, .bool on1, .int .i64 of1, .int .i64 og1, .bool on2, .int .i64 tf, .int .i64 tg, .int .i64 ac] 31 ∧ BoxAt w' (bC) #[.bool ob, .int .i64 of1, .int .i64 og1] 29 ∧ w'.cell? ⟨gb, go + k, none⟩ = some (.int .i64 pg))) (by kernel_rfl) ?_ (fun hS => ?_)
                    · (exact ⟨Pk.drew, Ck.drew, cell_drew hpkk⟩)
                    refine tkR 0 62 rfl hS (fun w' hSw => by have sP0 := (hSw.1).get 0 (.slice f l c) rfl; have sP1 := (hSw.1).get 1 (.int .i64 fr) rfl; have sP2 := (hSw.1).get 2 (.slice (some ⟨gb, go, none⟩) n d) rfl; have sP3 := (hSw.1).get 3 (.bool on1) rfl; have sP4 := (hSw.1).get 4 (.int .i64 of1) rfl; have sP5 := (hSw.1).get 5 (.int .i64 og1) rfl; have sP6 := (hSw.1).get 6 (.bool on2) rfl; have sP7 := (hSw.1).get 7 (.int .i64 tf) rfl; have sP8 := (hSw.1).get 8 (.int .i64 tg) rfl; have sP9 := (hSw.1).get 9 (.int .i64 ac) rfl; have sC0 := (hSw.2.1).get 0 (.bool ob) rfl; have sC1 := (hSw.2.1).get 1 (.int .i64 of1) rfl; have sC2 := (hSw.2.1).get 2 (.int .i64 og1) rfl; have sG := hSw.2.2; clear hSw; go_simp; try with_reducible rfl) ?_
                    simp only [pA, pB, pC]
                    refine tkR 1 63 rfl hS (fun w' _ => by go_simp; try with_reducible rfl) ?_
                    simp only [pA, pB, pC]
                    refine tkR 2 64 rfl hS (fun w' _ => by go_simp; try with_reducible rfl) ?_
                    simp only [pA, pB, pC]
                    refine tkR 3 65 rfl hS (fun w' hSw => by have sP0 := (hSw.1).get 0 (.slice f l c) rfl; have sP1 := (hSw.1).get 1 (.int .i64 fr) rfl; have sP2 := (hSw.1).get 2 (.slice (some ⟨gb, go, none⟩) n d) rfl; have sP3 := (hSw.1).get 3 (.bool on1) rfl; have sP4 := (hSw.1).get 4 (.int .i64 of1) rfl; have sP5 := (hSw.1).get 5 (.int .i64 og1) rfl; have sP6 := (hSw.1).get 6 (.bool on2) rfl; have sP7 := (hSw.1).get 7 (.int .i64 tf) rfl; have sP8 := (hSw.1).get 8 (.int .i64 tg) rfl; have sP9 := (hSw.1).get 9 (.int .i64 ac) rfl; have sC0 := (hSw.2.1).get 0 (.bool ob) rfl; have sC1 := (hSw.2.1).get 1 (.int .i64 of1) rfl; have sC2 := (hSw.2.1).get 2 (.int .i64 og1) rfl; have sG := hSw.2.2; clear hSw; go_simp; try with_reducible rfl) ?_
                    simp only [pA, pB, pC]
                    refine tkR 4 66 rfl hS (fun w' _ => by go_simp; try with_reducible rfl) ?_
                    simp only [pA, pB, pC]
                    refine tkR 5 67 rfl hS (fun w' _ => by go_simp; try with_reducible rfl) ?_
                    simp only [pA, pB, pC]
                    refine tkR 6 68 rfl hS (fun w' hSw => by have sP0 := (hSw.1).get 0 (.slice f l c) rfl; have sP1 := (hSw.1).get 1 (.int .i64 fr) rfl; have sP2 := (hSw.1).get 2 (.slice (some ⟨gb, go, none⟩) n d) rfl; have sP3 := (hSw.1).get 3 (.bool on1) rfl; have sP4 := (hSw.1).get 4 (.int .i64 of1) rfl; have sP5 := (hSw.1).get 5 (.int .i64 og1) rfl; have sP6 := (hSw.1).get 6 (.bool on2) rfl; have sP7 := (hSw.1).get 7 (.int .i64 tf) rfl; have sP8 := (hSw.1).get 8 (.int .i64 tg) rfl; have sP9 := (hSw.1).get 9 (.int .i64 ac) rfl; have sC0 := (hSw.2.1).get 0 (.bool ob) rfl; have sC1 := (hSw.2.1).get 1 (.int .i64 of1) rfl; have sC2 := (hSw.2.1).get 2 (.int .i64 og1) rfl; have sG := hSw.2.2; clear hSw; go_simp; try with_reducible rfl) ?_
                    simp only [pA, pB, pC]
                    refine tkR 7 69 rfl hS (fun w' _ => by go_simp; try with_reducible rfl) ?_
                    simp only [pA, pB, pC]
                    refine wpAnyH_ready (rs := [8]) (by kernel_rfl) (by simp) ?_
                    refine AllReadyH.cons (o := ⟨some 70, _, _, _, _, _⟩) rfl (fun K hK => ?_) AllReadyH.nil
                    go_simp
                    refine (HMM.out _).mono ?_
                    rintro e w14 ⟨rfl, hb14⟩
                    refine hK.out _ _ ?_ (fun hS' => ?_)
                    · (exact ⟨hS.1.below hb14, hS.2.1.below hb14, keepc hb14 hS.2.2⟩)
                    clear hK K hS
                    have hS := hS'
                    clear hS'
                    try simp only [Act.put, List.setIfInBounds_toArray, List.set_cons_zero, List.set_cons_succ]
                    refine tkR 9 71 rfl hS (fun w' _ => by go_simp; try with_reducible rfl) ?_
                    simp only [pA, pB, pC]
                    refine tkR 10 72 rfl hS (fun w' _ => by go_simp; try with_reducible rfl) ?_
                    simp only [pA, pB, pC]
                    refine tkR 11 73 rfl hS (fun w' hSw => by have sP0 := (hSw.1).get 0 (.slice f l c) rfl; have sP1 := (hSw.1).get 1 (.int .i64 fr) rfl; have sP2 := (hSw.1).get 2 (.slice (some ⟨gb, go, none⟩) n d) rfl; have sP3 := (hSw.1).get 3 (.bool on1) rfl; have sP4 := (hSw.1).get 4 (.int .i64 of1) rfl; have sP5 := (hSw.1).get 5 (.int .i64 og1) rfl; have sP6 := (hSw.1).get 6 (.bool on2) rfl; have sP7 := (hSw.1).get 7 (.int .i64 tf) rfl; have sP8 := (hSw.1).get 8 (.int .i64 tg) rfl; have sP9 := (hSw.1).get 9 (.int .i64 ac) rfl; have sC0 := (hSw.2.1).get 0 (.bool ob) rfl; have sC1 := (hSw.2.1).get 1 (.int .i64 of1) rfl; have sC2 := (hSw.2.1).get 2 (.int .i64 og1) rfl; have sG := hSw.2.2; clear hSw; go_simp; try with_reducible rfl) ?_
                    simp only [pA, pB, pC]
                    refine wpAnyH_ready (rs := [12]) (by kernel_rfl) (by simp) ?_
                    refine AllReadyH.cons (o := ⟨some 74, _, _, _, _, _⟩) rfl (fun K hK => ?_) AllReadyH.nil
                    go_simp
                    refine (HPO.out _).mono ?_
                    rintro e w15 ⟨rfl, rfl⟩
                    refine hK.out _ _ ?_ (fun hS' => ?_)
                    · (exact ⟨hS.1, hS.2.1, hS.2.2⟩)
                    clear hK K hS
                    have hS := hS'
                    clear hS'
                    try simp only [Act.put, List.setIfInBounds_toArray, List.set_cons_zero, List.set_cons_succ]
                    refine tkR 13 75 rfl hS (fun w' _ => by go_simp; try with_reducible rfl) ?_
                    simp only [pA, pB, pC]
                    refine wpAnyH_done (by kernel_rfl) ?_ _
                    try simp only [Act.put, List.setIfInBounds_toArray, List.set_cons_zero, List.set_cons_succ]
                    clear hS
                    clear Pk Ck hpkk hlPk hlCk hlGk
                    have hpk9 := Lib.hid (keepc hb14 (cell_drew hpk8.out))
                    have HX9 := Lib.hid (HX8.out.below (Below.trans (Below.drew (Below.refl W8.heap.size W8)) hb14))
                    clear HX8 hpk8 HMM HPO
                    have P31 := Lib.hid ((P21.out.drew).below hb14)
                    have C31 := Lib.hid ((C21.out.drew).below hb14)
                    have H31 := Lib.hid ((H21.out.drew).below hb14)
                    have F31 := Lib.hid ((F21.out.drew).below hb14)
                    have X31 := Lib.hid ((X21.out.drew).below hb14)
                    have Y31 := Lib.hid ((Y21.out.drew).below hb14)
                    have O31 := Lib.hid ((O21.out.drew).below hb14)
                    have B31 := Lib.hid (bel_trans (Below.drew B21.out) hb14)
                    clear P21 C21 H21 F21 X21 Y21 O21 B21 hb14
                    have Hc0 := H31.out.get 0 (.int .i64 0) rfl
                    have Hc1 := H31.out.get 1 (.int .i64 0) rfl
                    have Hc2 := H31.out.get 2 (.bool false) rfl
                    have Hc3 := H31.out.get 3 (.bool false) rfl
                    have Hc4 := H31.out.get 4 (.bool false) rfl
                    have Hc5 := H31.out.get 5 (.bool false) rfl
                    have Hc6 := H31.out.get 6 (.bool false) rfl
                    have Hc7 := H31.out.get 7 (.int .i64 0) rfl
                    have Hc8 := H31.out.get 8 (.int .i64 0) rfl
                    have Xc0 := X31.out.get 0 (.int .i64 0) rfl
                    have Xc1 := X31.out.get 1 (.int .i64 0) rfl
                    have Xc2 := X31.out.get 2 (.bool false) rfl
                    have Xc3 := X31.out.get 3 (.bool false) rfl
                    have Xc4 := X31.out.get 4 (.bool false) rfl
                    have Xc5 := X31.out.get 5 (.bool false) rfl
                    have Xc6 := X31.out.get 6 (.bool false) rfl
                    have Xc7 := X31.out.get 7 (.int .i64 0) rfl
                    have Xc8 := X31.out.get 8 (.int .i64 0) rfl
                    have Fc0 := F31.out.get 0 (.int .i64 0) rfl
                    have Fc1 := F31.out.get 1 (.int .i64 0) rfl
                    have Fc2 := F31.out.get 2 (.int .i64 0) rfl
                    have Fc3 := F31.out.get 3 (.bool false) rfl
                    have Fc4 := F31.out.get 4 (.int .i64 0) rfl
                    have Yc0 := Y31.out.get 0 (.int .i64 0) rfl
                    have Yc1 := Y31.out.get 1 (.int .i64 0) rfl
                    have Yc2 := Y31.out.get 2 (.int .i64 0) rfl
                    have Yc3 := Y31.out.get 3 (.bool false) rfl
                    have Yc4 := Y31.out.get 4 (.int .i64 0) rfl
                    go_wp2_with fail
                    refine (lnum7_any _ _).mono ?_
                    rintro e w32 ⟨rfl, rfl⟩
                    go_wp2_with fail
                    refine (eqI_any _ _ _ _ _ _ [] _ (by simp; try omega) (by simp) (by simp) O31.out.ints.2 (CellsAt.empty _ _ _)).mono ?_
                    rintro e w60 ⟨rfl, m60, rfl⟩
                    have BB := B31
                    clear Hc0 Hc1 Hc2 Hc3 Hc4 Hc5 Hc6 Hc7 Hc8 Xc0 Xc1 Xc2 Xc3 Xc4 Xc5 Xc6 Xc7 Xc8 Fc0 Fc1 Fc2 Fc3 Fc4 Yc0 Yc1 Yc2 Yc3 Yc4
                    go_wp2
                    go_roundw
                    case rel => exact ⟨on + 1, by omega, by omega, by go_num, below_drewN BB.out m60⟩
                    case measure => (simp [intOf] <;> omega)
                · rw [hA] at HMM
                  rw [hO] at HPO
                  have hAO : (mayN l tf pg acc && numB of1 4095) = true := by rw [hA, hO]; rfl
                  simp only [transA_yes hAO] at HT
                  obtain ⟨hm, ⟨t0, t1⟩, ⟨p0, p1⟩, a0, a1⟩ := mayN_iff.1 hA
                  obtain ⟨o0, o1⟩ := numB_iff.1 hO
                  clear hA hO hAO
                  have hR4 := transD_len l X ob of1 on2 tf pg acc o0 t0 p0
                  have HRR := Lib.hid (fun W h => HMR.out ob pg acc W h hm o0 o1 t0 t1 p0 p1)
                  clear hm a0 a1
                  generalize transD l X ob of1 on2 tf pg acc = q at *
                  obtain ⟨⟨hf, hm', ⟨hr, hw, hx, ha, hn, hs⟩, hl⟩, ⟨fk, fs, fl, fw, fp⟩, R⟩ := q
                  unfold Walk4End hitV fltV at HT
                  unfold WalkEnd hitV fltV at HRR
                  simp only at HT HRR hR4
                  have hq1 : eqH ⟨hf, hm', ⟨hr, hw, hx, ha, hn, hs⟩, hl⟩ ⟨hf, hm', ⟨hr, hw, hx, ha, hn, hs⟩, hl⟩ = true := eqH_self _
                  have hq2 : eqF ⟨fk, fs, fl, fw, fp⟩ ⟨fk, fs, fl, fw, fp⟩ = true := eqF_self _
                  have Pc3 := X2.out.get 3 (.bool on1) rfl
                  have Pc4 := X2.out.get 4 (.int .i64 of1) rfl
                  have Pc5 := X2.out.get 5 (.int .i64 og1) rfl
                  have hneP : w.heap.size < wr.heap.size := X2.out.lt
                  go_upto_region 14 with fail
                  have P6 := Lib.hid ((X2.out.alloc (.cells #[.bool ob, .int .i64 of1, .int .i64 og1] 29)))
                  have C6 := Lib.hid ((BoxAt.newAt (wr) #[.bool ob, .int .i64 of1, .int .i64 og1] 29 (wr.heap.size) (by first | rfl | (simp; done) | (simp; omega))))
                  have B6 := Lib.hid ((bel_alloc HB.out (.cells #[.bool ob, .int .i64 of1, .int .i64 og1] 29)))
                  clear Pc3 Pc4 Pc5
                  clear X2 HB
                  obtain ⟨W5, hW5⟩ : ∃ W5, W5 = (wr).alloc (.cells #[.bool ob, .int .i64 of1, .int .i64 og1] 29) := ⟨_, rfl⟩
                  obtain ⟨bC, hbC⟩ : ∃ bC, bC = wr.heap.size := ⟨_, rfl⟩
                  have hb5 := Lib.hid (show Below wr.heap.size wr W5 from by rw [hW5]; exact bel_alloc (Below.refl _ _) _)
                  rw [← hW5] at P6 C6 B6 ⊢
                  have hpk5 := Lib.hid (keepc hb5.out hpk2.out)
                  have HXd := Lib.hid (HXc.out.below hb5.out)
                  have hs5 : wr.heap.size ≤ W5.heap.size := hb5.out.size
                  rw [← hbC] at C6 hneP ⊢
                  clear hW5 hb5 hpk2 HXc hbC
                  have Pk := P6.out
                  have hlPk := Pk.lt
                  have Ck := C6.out
                  have hlCk := Ck.lt
                  have hpkk := hpk5.out
                  have hlGk : gb < W5.heap.size := cell_block hpkk
                  go_upto_region 14 with fail
                  go_cut [7, 8, 9, 10] (fun s7 s8 s9 s10 wx => ∃ (bH : Nat) (bF : Nat) (f' : Option Addr) (c' : Nat), s7 = .pointer (some ⟨bH, 0, none⟩) ∧ s8 = .pointer (some ⟨bF, 0, none⟩) ∧ s9 = .slice f' (R.length) c' ∧ s10 = .int .i64 0 ∧ W5.heap.size ≤ bH ∧ W5.heap.size ≤ bF ∧ bH ≠ bF ∧ Hid (Below W5.heap.size W5 wx) ∧ Hid (BoxAt wx bH #[.int .i64 hf, .int .i64 hm', .bool hr, .bool hw, .bool hx, .bool ha, .bool hn, .int .i64 hs, .int .i64 hl] 36) ∧ Hid (BoxAt wx bF #[.int .i64 fk, .int .i64 fs, .int .i64 fl, .bool fw, .int .i64 fp] 38) ∧ Hid (OwnI wx W5.heap.size (.slice f' (R.length) c') (R)))
                  case first =>
                    rename_i JJ KK hJJ hKK
                    refine wp_region_table (X := Option Addr × Nat) (none, 0) (I0 := fun w' => Below W5.heap.size W5 w') (I1 := fun xJ w' => Below W5.heap.size W5 w' ∧ OwnI w' (W5.heap.size) (.slice xJ.1 (R.length) xJ.2) (R)) (lo := W5.heap.size) (c := 13) (U := [⟨(some 44), .con (.pointer (some ⟨w.heap.size, 0, none⟩))⟩, ⟨(some 45), .con (.pointer (some ⟨w.heap.size, 0, none⟩))⟩, ⟨(some 46), .ld (.agg #[.slice f l c])⟩, ⟨(some 47), .ld (.agg #[.bool ob, .int .i64 of1, .int .i64 og1])⟩, ⟨(some 48), .con (.pointer (some ⟨w.heap.size, 6, none⟩))⟩, ⟨(some 49), .ld (.agg #[.bool on2, .int .i64 tf, .int .i64 tg])⟩, ⟨(some 50), .con (.pointer (some ⟨w.heap.size, 0, none⟩))⟩, ⟨(some 51), .con (.pointer (some ⟨w.heap.size, 2, none⟩))⟩, ⟨(some 52), .ld (.slice (some ⟨gb, go, none⟩) n d)⟩, ⟨(some 53), .con (.int .i64 k)⟩, ⟨(some 54), .con (.pointer (some ⟨gb, go + k, none⟩))⟩, ⟨(some 55), .ld (.int .i64 pg)⟩, ⟨(some 56), .con (.int .i64 acc)⟩, ⟨(some 57), .cal fun xJ => .tuple #[.agg #[.int .i64 hf, .int .i64 hm', .bool hr, .bool hw, .bool hx, .bool ha, .bool hn, .int .i64 hs, .int .i64 hl], .agg #[.int .i64 fk, .int .i64 fs, .int .i64 fl, .bool fw, .int .i64 fp], .slice xJ.1 (R.length) xJ.2, .int .i64 0]⟩, ⟨(some 43), .res fun xJ => .tuple #[.agg #[.int .i64 hf, .int .i64 hm', .bool hr, .bool hw, .bool hx, .bool ha, .bool hn, .int .i64 hs, .int .i64 hl], .agg #[.int .i64 fk, .int .i64 fs, .int .i64 fl, .bool fw, .int .i64 fp], .slice xJ.1 (R.length) xJ.2, .int .i64 0]⟩, ⟨(some 58), .res fun xJ => .agg #[.int .i64 hf, .int .i64 hm', .bool hr, .bool hw, .bool hx, .bool ha, .bool hn, .int .i64 hs, .int .i64 hl]⟩, ⟨(some 59), .res fun xJ => .agg #[.int .i64 fk, .int .i64 fs, .int .i64 fl, .bool fw, .int .i64 fp]⟩, ⟨(some 60), .res fun xJ => .slice xJ.1 (R.length) xJ.2⟩, ⟨(some 61), .res fun xJ => .int .i64 0⟩, ⟨(some 7), .new 36 #[.int .i64 0, .int .i64 0, .bool false, .bool false, .bool false, .bool false, .bool false, .int .i64 0, .int .i64 0]⟩, ⟨(some 8), .new 38 #[.int .i64 0, .int .i64 0, .int .i64 0, .bool false, .int .i64 0]⟩, ⟨none, .sto 19 fun xJ => #[.int .i64 hf, .int .i64 hm', .bool hr, .bool hw, .bool hx, .bool ha, .bool hn, .int .i64 hs, .int .i64 hl]⟩, ⟨none, .sto 20 fun xJ => #[.int .i64 fk, .int .i64 fs, .int .i64 fl, .bool fw, .int .i64 fp]⟩, ⟨(some 9), .res fun xJ => .slice xJ.1 (R.length) xJ.2⟩, ⟨(some 10), .res fun xJ => .int .i64 0⟩])
                      (V := fun xJ => .tuple #[.agg #[.int .i64 hf, .int .i64 hm', .bool hr, .bool hw, .bool hx, .bool ha, .bool hn, .int .i64 hs, .int .i64 hl], .agg #[.int .i64 fk, .int .i64 fs, .int .i64 fl, .bool fw, .int .i64 fp], .slice xJ.1 (R.length) xJ.2, .int .i64 0]) (f := 17) (args := #[.agg #[.slice f l c], .agg #[.bool ob, .int .i64 of1, .int .i64 og1], .agg #[.bool on2, .int .i64 tf, .int .i64 tg], .int .i64 pg, .int .i64 acc]) (dc := some 57) (by kernel_rfl) (fun _ _ => rfl) (by kernel_rfl) (by kernel_rfl) rfl
                      (AllObl.all ⟨fun _ _ _ => by kernel_rfl, fun _ _ _ => by kernel_rfl, fun _ _ _ hJ => run_ldN 24 (.tmp 45) w.heap.size 0 (by kernel_rfl) (by kernel_rfl) Tryz.underlying24 rfl (by kernel_rfl) ((P6.out.below hJ).sub 0 _ rfl), fun _ _ _ hJ => run_ldN 29 (.tmp 6) bC 0 (by kernel_rfl) (by kernel_rfl) Tryz.underlying29 rfl (by kernel_rfl) ((C6.out.below hJ).sub 0 _ rfl), fun _ _ _ => by kernel_rfl, fun _ _ _ hJ => run_ldN 29 (.tmp 48) w.heap.size 6 (by kernel_rfl) (by kernel_rfl) Tryz.underlying29 rfl (by kernel_rfl) ((P6.out.below hJ).sub 6 _ rfl), fun _ _ _ => by kernel_rfl, fun _ _ _ => by kernel_rfl, fun _ _ _ hJ => run_ld1 25 (.tmp 51) w.heap.size 2 (by kernel_rfl) (by kernel_rfl) Tryz.underlying25 rfl ((P6.out.below hJ).get 2 (.slice (some ⟨gb, go, none⟩) n d) rfl), fun _ _ _ => by kernel_rfl, fun _ _ _ => run_ix1 25 3 (.tmp 52) (.tmp 53) gb go n d k (by kernel_rfl) (by kernel_rfl) (by kernel_rfl) Tryz.underlying25 (by kernel_rfl) hlt, fun _ _ _ hJ => run_ld1 3 (.tmp 54) gb (go + k) (by kernel_rfl) (by kernel_rfl) Tryz.underlying3 rfl (keepc hJ hpk5.out), fun _ _ _ => by kernel_rfl, trivial, fun _ _ _ => by kernel_rfl, fun _ _ _ => by kernel_rfl, fun _ _ _ => by kernel_rfl, fun _ _ _ => by kernel_rfl, fun _ _ _ => by kernel_rfl, fun _ _ _ => by kernel_rfl, fun _ _ _ => by kernel_rfl, ⟨_, _, _, rfl, fun _ _ _ hJ => run_stoB 36 (.tmp 7) (.tmp 58) _ (by kernel_rfl) (by kernel_rfl) (by kernel_rfl) (by kernel_rfl) (by rfl) (by simp [Value.oneCell']) hJ⟩, ⟨_, _, _, rfl, fun _ _ _ hJ => run_stoB 38 (.tmp 8) (.tmp 59) _ (by kernel_rfl) (by kernel_rfl) (by kernel_rfl) (by kernel_rfl) (by rfl) (by simp [Value.oneCell']) hJ⟩, fun _ _ _ => by kernel_rfl, fun _ _ _ => by kernel_rfl, trivial⟩)
                      (fun _ oJ hJ => bel_alloc hJ oJ) (fun xJ _ oJ hJ => ⟨bel_alloc hJ.1 oJ, hJ.2.alloc oJ⟩) (fun xJ _ bJ csJ dsJ tJ iJ zJ dJ hiJ hbJ hxJ hJ => ⟨Below.rowB (g := bJ) hJ.1 (cs := dsJ) hbJ, hJ.2.rowN (hJ.2.ne_box hxJ (fun eJ => newsOk_spec (bad := [3]) (by kernel_rfl) hiJ (by rw [eJ]; exact List.mem_cons_self ..)))⟩) (fun _ hJ => hJ.size) (fun xJ _ hJ => hJ.1.size) (fun _ _ _ _ => by kernel_rfl)
                      (fun wJ hJ => (HT.out _ (HXd.out.below hJ)).mono (by rintro _ w2J ⟨f', c', rfl, hN, hb⟩; exact ⟨(f', c'), rfl, ⟨bel_trans hJ hb, OwnI.mono hN hJ.size⟩, fun bJ csJ tJ iJ zJ dJ hiJ hlJ hxJ => hxJ.below hb⟩)) (Below.drew (Below.refl _ _)) ?_
                    rintro ⟨f', c'⟩ βJ w1c ⟨q1_0, q1_1⟩ hNW
                    obtain ⟨hbH1, QH1⟩ := hNW.full 19 21 (by kernel_rfl) rfl rfl
                    obtain ⟨hbF1, QF1⟩ := hNW.full 20 22 (by kernel_rfl) rfl rfl
                    have hn1_01 := hNW.ne 19 20 _ _ _ _ _ _ rfl rfl rfl rfl (by decide)
                    clear hNW
                    simp only [putU, if_true, Act.put, Knd.val, List.setIfInBounds_toArray, List.set_cons_zero, List.set_cons_succ]
                    show KK _ _
                    refine hKK _ _ (Met.intro (hJJ _ _ ?_))
                    (repeat apply Exists.intro)
                    refine ⟨?_, rfl⟩
                    exact ⟨βJ 19, βJ 20, f', c', rfl, rfl, rfl, rfl, hbH1, hbF1, hn1_01, Lib.hid q1_0, Lib.hid QH1, Lib.hid QF1, Lib.hid q1_1⟩
                  case rest =>
                    clear Pk Ck hpkk hlPk hlCk hlGk
                    obtain ⟨bH, bF, f', c', rfl, rfl, rfl, rfl, hbH, hbF, hHF, HBx, H20, F20, O20⟩ := hcut
                    obtain ⟨w20, rfl⟩ : ∃ w20 : World, w20 = wc := ⟨_, rfl⟩
                    have hpk20 := Lib.hid (keepc HBx.out hpk5.out)
                    have HX20 := Lib.hid (HXd.out.below HBx.out)
                    have P20 := Lib.hid (P6.out.below HBx.out)
                    have C20 := Lib.hid (C6.out.below HBx.out)
                    have B20 := Lib.hid (bel_trans B6.out HBx.out)
                    have hs20 : W5.heap.size ≤ w20.heap.size := HBx.out.size
                    have hlH := H20.out.lt
                    have hlF := F20.out.lt
                    have hlP := P20.out.lt
                    have hlC := C20.out.lt
                    have hlG : gb < w20.heap.size := cell_block hpk20.out
                    have hx20 : w1.heap.size ≤ w20.heap.size := by omega
                    have HOB := Lib.hid (OwnI.blt O20.out)
                    clear HBx B6 P6 C6 hpk5 HXd HT
                    go_upto_region 19 with fail
                    have P21 := Lib.hid (((P20.out.alloc (.cells z9 36)).alloc (.cells z5 38)))
                    have C21 := Lib.hid (((C20.out.alloc (.cells z9 36)).alloc (.cells z5 38)))
                    have H21 := Lib.hid (((H20.out.alloc (.cells z9 36)).alloc (.cells z5 38)))
                    have F21 := Lib.hid (((F20.out.alloc (.cells z9 36)).alloc (.cells z5 38)))
                    have X21 := Lib.hid (((BoxAt.newAt (w20) z9 36 (w20.heap.size) (by first | rfl | (simp; done) | (simp; omega))).alloc (.cells z5 38)))
                    have Y21 := Lib.hid ((BoxAt.newAt ((w20).alloc (.cells z9 36)) z5 38 (w20.heap.size + 1) (by first | rfl | (simp; done) | (simp; omega))))
                    have O21 := Lib.hid (((O20.out.alloc (.cells z9 36)).alloc (.cells z5 38)))
                    have B21 := Lib.hid ((bel_alloc (bel_alloc B20.out (.cells z9 36)) (.cells z5 38)))
                    clear P20 C20 H20 F20 O20 B20
                    obtain ⟨W8, hW8⟩ : ∃ W8, W8 = (w20.alloc (.cells z9 36)).alloc (.cells z5 38) := ⟨_, rfl⟩
                    obtain ⟨bX, hbX⟩ : ∃ bX, bX = w20.heap.size := ⟨_, rfl⟩
                    have hb8 := Lib.hid (show Below w20.heap.size w20 W8 from by rw [hW8]; exact bel_alloc (bel_alloc (Below.refl _ _) _) _)
                    rw [← hW8] at P21 C21 H21 F21 X21 Y21 B21 O21 ⊢
                    rw [← hbX] at X21 Y21 HOB hlH hlF hlP hlC hlG hs20 hx20 ⊢
                    have hpk8 := Lib.hid (keepc hb8.out hpk20.out)
                    have HX8 := Lib.hid (HX20.out.below hb8.out)
                    clear hW8 hb8 hpk20 HX20 hbX
                    have Pk := P21.out
                    have hlPk := Pk.lt
                    have Ck := C21.out
                    have hlCk := Ck.lt
                    have hpkk := hpk8.out
                    have hlGk : gb < W8.heap.size := cell_block hpkk
                    refine wp_region_held_drew (S := (fun w' => BoxAt w' (w.heap.size) #[.slice f l c, .int .i64 fr, .slice (some ⟨gb, go, none⟩) n d, .bool on1, .int .i64 of1, .int .i64 og1, .bool on2, .int .i64 tf, .int .i64 tg, .int .i64 ac] 31 ∧ BoxAt w' (bC) #[.bool ob, .int .i64 of1, .int .i64 og1] 29 ∧ w'.cell? ⟨gb, go + k, none⟩ = some (.int .i64 pg))) (by kernel_rfl) ?_ (fun hS => ?_)
                    · (exact ⟨Pk.drew, Ck.drew, cell_drew hpkk⟩)
                    refine tkR 0 62 rfl hS (fun w' hSw => by have sP0 := (hSw.1).get 0 (.slice f l c) rfl; have sP1 := (hSw.1).get 1 (.int .i64 fr) rfl; have sP2 := (hSw.1).get 2 (.slice (some ⟨gb, go, none⟩) n d) rfl; have sP3 := (hSw.1).get 3 (.bool on1) rfl; have sP4 := (hSw.1).get 4 (.int .i64 of1) rfl; have sP5 := (hSw.1).get 5 (.int .i64 og1) rfl; have sP6 := (hSw.1).get 6 (.bool on2) rfl; have sP7 := (hSw.1).get 7 (.int .i64 tf) rfl; have sP8 := (hSw.1).get 8 (.int .i64 tg) rfl; have sP9 := (hSw.1).get 9 (.int .i64 ac) rfl; have sC0 := (hSw.2.1).get 0 (.bool ob) rfl; have sC1 := (hSw.2.1).get 1 (.int .i64 of1) rfl; have sC2 := (hSw.2.1).get 2 (.int .i64 og1) rfl; have sG := hSw.2.2; clear hSw; go_simp; try with_reducible rfl) ?_
                    simp only [pA, pB, pC]
                    refine tkR 1 63 rfl hS (fun w' _ => by go_simp; try with_reducible rfl) ?_
                    simp only [pA, pB, pC]
                    refine tkR 2 64 rfl hS (fun w' _ => by go_simp; try with_reducible rfl) ?_
                    simp only [pA, pB, pC]
                    refine tkR 3 65 rfl hS (fun w' hSw => by have sP0 := (hSw.1).get 0 (.slice f l c) rfl; have sP1 := (hSw.1).get 1 (.int .i64 fr) rfl; have sP2 := (hSw.1).get 2 (.slice (some ⟨gb, go, none⟩) n d) rfl; have sP3 := (hSw.1).get 3 (.bool on1) rfl; have sP4 := (hSw.1).get 4 (.int .i64 of1) rfl; have sP5 := (hSw.1).get 5 (.int .i64 og1) rfl; have sP6 := (hSw.1).get 6 (.bool on2) rfl; have sP7 := (hSw.1).get 7 (.int .i64 tf) rfl; have sP8 := (hSw.1).get 8 (.int .i64 tg) rfl; have sP9 := (hSw.1).get 9 (.int .i64 ac) rfl; have sC0 := (hSw.2.1).get 0 (.bool ob) rfl; have sC1 := (hSw.2.1).get 1 (.int .i64 of1) rfl; have sC2 := (hSw.2.1).get 2 (.int .i64 og1) rfl; have sG := hSw.2.2; clear hSw; go_simp; try with_reducible rfl) ?_
                    simp only [pA, pB, pC]
                    refine tkR 4 66 rfl hS (fun w' _ => by go_simp; try with_reducible rfl) ?_
                    simp only [pA, pB, pC]
                    refine tkR 5 67 rfl hS (fun w' _ => by go_simp; try with_reducible rfl) ?_
                    simp only [pA, pB, pC]
                    refine tkR 6 68 rfl hS (fun w' hSw => by have sP0 := (hSw.1).get 0 (.slice f l c) rfl; have sP1 := (hSw.1).get 1 (.int .i64 fr) rfl; have sP2 := (hSw.1).get 2 (.slice (some ⟨gb, go, none⟩) n d) rfl; have sP3 := (hSw.1).get 3 (.bool on1) rfl; have sP4 := (hSw.1).get 4 (.int .i64 of1) rfl; have sP5 := (hSw.1).get 5 (.int .i64 og1) rfl; have sP6 := (hSw.1).get 6 (.bool on2) rfl; have sP7 := (hSw.1).get 7 (.int .i64 tf) rfl; have sP8 := (hSw.1).get 8 (.int .i64 tg) rfl; have sP9 := (hSw.1).get 9 (.int .i64 ac) rfl; have sC0 := (hSw.2.1).get 0 (.bool ob) rfl; have sC1 := (hSw.2.1).get 1 (.int .i64 of1) rfl; have sC2 := (hSw.2.1).get 2 (.int .i64 og1) rfl; have sG := hSw.2.2; clear hSw; go_simp; try with_reducible rfl) ?_
                    simp only [pA, pB, pC]
                    refine tkR 7 69 rfl hS (fun w' _ => by go_simp; try with_reducible rfl) ?_
                    simp only [pA, pB, pC]
                    refine wpAnyH_ready (rs := [8]) (by kernel_rfl) (by simp) ?_
                    refine AllReadyH.cons (o := ⟨some 70, _, _, _, _, _⟩) rfl (fun K hK => ?_) AllReadyH.nil
                    go_simp
                    refine (HMM.out _).mono ?_
                    rintro e w14 ⟨rfl, hb14⟩
                    refine hK.out _ _ ?_ (fun hS' => ?_)
                    · (exact ⟨hS.1.below hb14, hS.2.1.below hb14, keepc hb14 hS.2.2⟩)
                    clear hK K hS
                    have hS := hS'
                    clear hS'
                    try simp only [Act.put, List.setIfInBounds_toArray, List.set_cons_zero, List.set_cons_succ]
                    refine tkR 9 71 rfl hS (fun w' _ => by go_simp; try with_reducible rfl) ?_
                    simp only [pA, pB, pC]
                    refine tkR 10 72 rfl hS (fun w' _ => by go_simp; try with_reducible rfl) ?_
                    simp only [pA, pB, pC]
                    refine tkR 11 73 rfl hS (fun w' hSw => by have sP0 := (hSw.1).get 0 (.slice f l c) rfl; have sP1 := (hSw.1).get 1 (.int .i64 fr) rfl; have sP2 := (hSw.1).get 2 (.slice (some ⟨gb, go, none⟩) n d) rfl; have sP3 := (hSw.1).get 3 (.bool on1) rfl; have sP4 := (hSw.1).get 4 (.int .i64 of1) rfl; have sP5 := (hSw.1).get 5 (.int .i64 og1) rfl; have sP6 := (hSw.1).get 6 (.bool on2) rfl; have sP7 := (hSw.1).get 7 (.int .i64 tf) rfl; have sP8 := (hSw.1).get 8 (.int .i64 tg) rfl; have sP9 := (hSw.1).get 9 (.int .i64 ac) rfl; have sC0 := (hSw.2.1).get 0 (.bool ob) rfl; have sC1 := (hSw.2.1).get 1 (.int .i64 of1) rfl; have sC2 := (hSw.2.1).get 2 (.int .i64 og1) rfl; have sG := hSw.2.2; clear hSw; go_simp; try with_reducible rfl) ?_
                    simp only [pA, pB, pC]
                    refine wpAnyH_ready (rs := [12]) (by kernel_rfl) (by simp) ?_
                    refine AllReadyH.cons (o := ⟨some 74, _, _, _, _, _⟩) rfl (fun K hK => ?_) AllReadyH.nil
                    go_simp
                    refine (HPO.out _).mono ?_
                    rintro e w15 ⟨rfl, rfl⟩
                    refine hK.out _ _ ?_ (fun hS' => ?_)
                    · (exact ⟨hS.1, hS.2.1, hS.2.2⟩)
                    clear hK K hS
                    have hS := hS'
                    clear hS'
                    try simp only [Act.put, List.setIfInBounds_toArray, List.set_cons_zero, List.set_cons_succ]
                    refine tkR 13 75 rfl hS (fun w' _ => by go_simp; try with_reducible rfl) ?_
                    simp only [pA, pB, pC]
                    refine wpAnyH_done (by kernel_rfl) ?_ _
                    try simp only [Act.put, List.setIfInBounds_toArray, List.set_cons_zero, List.set_cons_succ]
                    clear hS
                    clear Pk Ck hpkk hlPk hlCk hlGk
                    have hpk9 := Lib.hid (keepc hb14 (cell_drew hpk8.out))
                    have HX9 := Lib.hid (HX8.out.below (Below.trans (Below.drew (Below.refl W8.heap.size W8)) hb14))
                    clear HX8 hpk8 HMM HPO
                    have P31 := Lib.hid ((P21.out.drew).below hb14)
                    have C31 := Lib.hid ((C21.out.drew).below hb14)
                    have H31 := Lib.hid ((H21.out.drew).below hb14)
                    have F31 := Lib.hid ((F21.out.drew).below hb14)
                    have X31 := Lib.hid ((X21.out.drew).below hb14)
                    have Y31 := Lib.hid ((Y21.out.drew).below hb14)
                    have O31 := Lib.hid ((O21.out.drew).below hb14)
                    have B31 := Lib.hid (bel_trans (Below.drew B21.out) hb14)
                    clear P21 C21 H21 F21 X21 Y21 O21 B21 hb14
                    go_upto_region 21 with fail
                    have Pk := P31.out
                    have hlPk := Pk.lt
                    have Ck := C31.out
                    have hlCk := Ck.lt
                    have hpkk := hpk9.out
                    have hlGk : gb < w14.heap.size := cell_block hpkk
                    have Xk := X31.out
                    have Yk := Y31.out
                    have hlY := Yk.lt
                    go_cut [14] (fun s14 wx => ∃ (f2 : Option Addr) (c2 : Nat), s14 = .slice f2 R.length c2 ∧ Hid (Below bX w14 wx) ∧ Hid (BoxAt wx bX #[.int .i64 hf, .int .i64 hm', .bool hr, .bool hw, .bool hx, .bool ha, .bool hn, .int .i64 hs, .int .i64 hl] 36) ∧ Hid (BoxAt wx (bX + 1) #[.int .i64 fk, .int .i64 fs, .int .i64 fl, .bool fw, .int .i64 fp] 38) ∧ Hid (OwnI wx w14.heap.size (.slice f2 R.length c2) R))
                    case first =>
                      rename_i JJ KK hJJ hKK
                      refine wp_region_held_drew (S := (fun w' => BoxAt w' (w.heap.size) #[.slice f l c, .int .i64 fr, .slice (some ⟨gb, go, none⟩) n d, .bool on1, .int .i64 of1, .int .i64 og1, .bool on2, .int .i64 tf, .int .i64 tg, .int .i64 ac] 31 ∧ BoxAt w' (bC) #[.bool ob, .int .i64 of1, .int .i64 og1] 29 ∧ w'.cell? ⟨gb, go + k, none⟩ = some (.int .i64 pg))) (by kernel_rfl) ?_ (fun hS => ?_)
                      · (exact ⟨Pk.drew, Ck.drew, cell_drew hpkk⟩)
                      refine tkR 0 77 rfl hS (fun w' _ => by go_simp; try with_reducible rfl) ?_
                      simp only [pA, pB, pC]
                      refine tkR 1 78 rfl hS (fun w' _ => by go_simp; try with_reducible rfl) ?_
                      simp only [pA, pB, pC]
                      refine tkR 2 79 rfl hS (fun w' hSw => by have sP0 := (hSw.1).get 0 (.slice f l c) rfl; have sP2 := (hSw.1).get 2 (.slice (some ⟨gb, go, none⟩) n d) rfl; have sP6 := (hSw.1).get 6 (.bool on2) rfl; have sP7 := (hSw.1).get 7 (.int .i64 tf) rfl; have sP8 := (hSw.1).get 8 (.int .i64 tg) rfl; have sC0 := (hSw.2.1).get 0 (.bool ob) rfl; have sC1 := (hSw.2.1).get 1 (.int .i64 of1) rfl; have sC2 := (hSw.2.1).get 2 (.int .i64 og1) rfl; have sG := hSw.2.2; clear hSw; go_simp; try with_reducible rfl) ?_
                      simp only [pA, pB, pC]
                      refine tkR 3 80 rfl hS (fun w' hSw => by have sP0 := (hSw.1).get 0 (.slice f l c) rfl; have sP2 := (hSw.1).get 2 (.slice (some ⟨gb, go, none⟩) n d) rfl; have sP6 := (hSw.1).get 6 (.bool on2) rfl; have sP7 := (hSw.1).get 7 (.int .i64 tf) rfl; have sP8 := (hSw.1).get 8 (.int .i64 tg) rfl; have sC0 := (hSw.2.1).get 0 (.bool ob) rfl; have sC1 := (hSw.2.1).get 1 (.int .i64 of1) rfl; have sC2 := (hSw.2.1).get 2 (.int .i64 og1) rfl; have sG := hSw.2.2; clear hSw; go_simp; try with_reducible rfl) ?_
                      simp only [pA, pB, pC]
                      refine tkR 4 81 rfl hS (fun w' _ => by go_simp; try with_reducible rfl) ?_
                      simp only [pA, pB, pC]
                      refine tkR 5 82 rfl hS (fun w' hSw => by have sP0 := (hSw.1).get 0 (.slice f l c) rfl; have sP2 := (hSw.1).get 2 (.slice (some ⟨gb, go, none⟩) n d) rfl; have sP6 := (hSw.1).get 6 (.bool on2) rfl; have sP7 := (hSw.1).get 7 (.int .i64 tf) rfl; have sP8 := (hSw.1).get 8 (.int .i64 tg) rfl; have sC0 := (hSw.2.1).get 0 (.bool ob) rfl; have sC1 := (hSw.2.1).get 1 (.int .i64 of1) rfl; have sC2 := (hSw.2.1).get 2 (.int .i64 og1) rfl; have sG := hSw.2.2; clear hSw; go_simp; try with_reducible rfl) ?_
                      simp only [pA, pB, pC]
                      refine tkR 6 83 rfl hS (fun w' _ => by go_simp; try with_reducible rfl) ?_
                      simp only [pA, pB, pC]
                      refine tkR 7 84 rfl hS (fun w' _ => by go_simp; try with_reducible rfl) ?_
                      simp only [pA, pB, pC]
                      refine tkR 8 85 rfl hS (fun w' hSw => by have sP0 := (hSw.1).get 0 (.slice f l c) rfl; have sP2 := (hSw.1).get 2 (.slice (some ⟨gb, go, none⟩) n d) rfl; have sP6 := (hSw.1).get 6 (.bool on2) rfl; have sP7 := (hSw.1).get 7 (.int .i64 tf) rfl; have sP8 := (hSw.1).get 8 (.int .i64 tg) rfl; have sC0 := (hSw.2.1).get 0 (.bool ob) rfl; have sC1 := (hSw.2.1).get 1 (.int .i64 of1) rfl; have sC2 := (hSw.2.1).get 2 (.int .i64 og1) rfl; have sG := hSw.2.2; clear hSw; go_simp; try with_reducible rfl) ?_
                      simp only [pA, pB, pC]
                      refine tkR 9 86 rfl hS (fun w' _ => by go_simp; try with_reducible rfl) ?_
                      simp only [pA, pB, pC]
                      refine tkR 10 87 rfl hS (fun w' _ => by go_simp; try with_reducible rfl) ?_
                      simp only [pA, pB, pC]
                      refine tkR 11 88 rfl hS (fun w' hSw => by have sP0 := (hSw.1).get 0 (.slice f l c) rfl; have sP2 := (hSw.1).get 2 (.slice (some ⟨gb, go, none⟩) n d) rfl; have sP6 := (hSw.1).get 6 (.bool on2) rfl; have sP7 := (hSw.1).get 7 (.int .i64 tf) rfl; have sP8 := (hSw.1).get 8 (.int .i64 tg) rfl; have sC0 := (hSw.2.1).get 0 (.bool ob) rfl; have sC1 := (hSw.2.1).get 1 (.int .i64 of1) rfl; have sC2 := (hSw.2.1).get 2 (.int .i64 og1) rfl; have sG := hSw.2.2; clear hSw; go_simp; try with_reducible rfl) ?_
                      simp only [pA, pB, pC]
                      refine tkR 12 89 rfl hS (fun w' _ => by go_simp; try with_reducible rfl) ?_
                      simp only [pA, pB, pC]
                      refine wpAnyH_ready (rs := [13]) (by kernel_rfl) (by simp) ?_
                      refine AllReadyH.cons (o := ⟨some 90, _, _, _, _, _⟩) rfl (fun K hK => ?_) AllReadyH.nil
                      go_simp
                      refine (HRR.out _ (HX9.out.below (by go_grown))).mono ?_
                      rintro e w16 ⟨f2, c2, rfl, hO16, hb16⟩
                      have hs16 : w14.heap.size ≤ w16.heap.size := hb16.size
                      refine hK.out _ _ ?_ (fun hS' => ?_)
                      · (exact ⟨hS.1.below hb16, hS.2.1.below hb16, keepc hb16 hS.2.2⟩)
                      clear hK K hS
                      have hS := hS'
                      clear hS'
                      try simp only [Act.put, List.setIfInBounds_toArray, List.set_cons_zero, List.set_cons_succ]
                      refine tkR 14 76 rfl hS (fun w' _ => by go_simp; try with_reducible rfl) ?_
                      simp only [pA, pB, pC]
                      refine tkR 15 91 rfl hS (fun w' _ => by go_simp; try with_reducible rfl) ?_
                      simp only [pA, pB, pC]
                      refine tkR 16 92 rfl hS (fun w' _ => by go_simp; try with_reducible rfl) ?_
                      simp only [pA, pB, pC]
                      refine tkR 17 93 rfl hS (fun w' _ => by go_simp; try with_reducible rfl) ?_
                      simp only [pA, pB, pC]
                      refine wpAnyH_ready (rs := [18]) (by kernel_rfl) (by simp) ?_
                      refine AllReadyH.cons (o := ⟨none, _, _, _, _, _⟩) rfl (fun K hK => ?_) AllReadyH.nil
                      refine step_storeB rfl 36 _ _ rfl _ _ z9 36 rfl rfl (by kernel_rfl) rfl (by simp [Value.oneCell']) (by repeat' (first | with_reducible exact Xk | with_reducible refine BoxAt.putAny #[] ?_ rfl | (with_reducible refine BoxAt.row ?_ (by omega)) | with_reducible refine BoxAt.drew ?_ | with_reducible refine BoxAt.below ?_ hb16)) ?_
                      refine hK.out _ _ ?_ (fun hS' => ?_)
                      · (exact ⟨hS.1.row (by first | omega | (simp; done) | (simp; omega)), hS.2.1.row (by first | omega | (simp; done) | (simp; omega)), cell_row (by first | omega | (simp; done) | (simp; omega)) hS.2.2⟩)
                      clear hK K hS
                      have hS := hS'
                      clear hS'
                      try simp only [Act.put]
                      refine wpAnyH_ready (rs := [19]) (by kernel_rfl) (by simp) ?_
                      refine AllReadyH.cons (o := ⟨none, _, _, _, _, _⟩) rfl (fun K hK => ?_) AllReadyH.nil
                      refine step_storeB rfl 38 _ _ rfl _ _ z5 38 rfl rfl (by kernel_rfl) rfl (by simp [Value.oneCell']) (by repeat' (first | with_reducible exact Yk | with_reducible refine BoxAt.putAny #[] ?_ rfl | (with_reducible refine BoxAt.row ?_ (by omega)) | with_reducible refine BoxAt.drew ?_ | with_reducible refine BoxAt.below ?_ hb16)) ?_
                      refine hK.out _ _ ?_ (fun hS' => ?_)
                      · (exact ⟨hS.1.row (by first | omega | (simp; done) | (simp; omega)), hS.2.1.row (by first | omega | (simp; done) | (simp; omega)), cell_row (by first | omega | (simp; done) | (simp; omega)) hS.2.2⟩)
                      clear hK K hS
                      have hS := hS'
                      clear hS'
                      try simp only [Act.put]
                      refine tkR 20 14 rfl hS (fun w' _ => by go_simp; try with_reducible rfl) ?_
                      simp only [pA, pB, pC]
                      refine wpAnyH_done (by kernel_rfl) ?_ _
                      try simp only [Act.put, List.setIfInBounds_toArray, List.set_cons_zero, List.set_cons_succ]
                      clear hS
                      show KK _ _
                      refine hKK _ _ (Met.intro (hJJ _ _ ?_))
                      (repeat apply Exists.intro)
                      refine ⟨?_, rfl⟩
                      refine ⟨f2, c2, rfl, ?_, ?_, ?_, ?_⟩
                      · show Below _ _ _
                        have m16 := hb16.mono (show bX ≤ w14.drew.heap.size by show bX ≤ w14.heap.size; omega)
                        repeat' (first | with_reducible exact Below.refl _ _ | (with_reducible refine Below.rowB ?_ (by omega)) | with_reducible refine Below.drew ?_ | with_reducible refine Below.trans ?_ m16)
                      · show BoxAt _ _ _ _
                        repeat' (first | with_reducible exact Xk | with_reducible refine BoxAt.putAny #[.int .i64 0, .int .i64 0, .bool false, .bool false, .bool false, .bool false, .bool false, .int .i64 0, .int .i64 0] ?_ rfl | (with_reducible refine BoxAt.row ?_ (by omega)) | with_reducible refine BoxAt.drew ?_ | with_reducible refine BoxAt.below ?_ hb16)
                      · show BoxAt _ _ _ _
                        repeat' (first | with_reducible exact Yk | with_reducible refine BoxAt.putAny #[.int .i64 0, .int .i64 0, .int .i64 0, .bool false, .int .i64 0] ?_ rfl | (with_reducible refine BoxAt.row ?_ (by omega)) | with_reducible refine BoxAt.drew ?_ | with_reducible refine BoxAt.below ?_ hb16)
                      · show OwnI _ _ _ _
                        have hO17 := OwnI.mono hO16 (base' := w14.heap.size) (Nat.le_refl _)
                        repeat' (first | with_reducible exact hO17 | (with_reducible refine OwnI.row ?_ (by omega)))
                    case rest =>
                      obtain ⟨f2, c2, rfl, HBz, X50, Y50, Q50⟩ := hcut
                      obtain ⟨w50, rfl⟩ : ∃ w50 : World, w50 = wc := ⟨_, rfl⟩
                      have H50 := Lib.hid (H31.out.under HBz.out (by omega))
                      have F50 := Lib.hid (F31.out.under HBz.out (by omega))
                      have O50 := Lib.hid (O31.out.under HBz.out HOB.out)
                      have BB := Lib.hid (B31.out.trans (HBz.out.mono (by omega)))
                      clear HBz Xk Yk Pk Ck hpkk hlPk hlCk hlGk P31 C31 H31 F31 X31 Y31 B31
                      have Hc0 := H50.out.get 0 (.int .i64 hf) rfl
                      have Hc1 := H50.out.get 1 (.int .i64 hm') rfl
                      have Hc2 := H50.out.get 2 (.bool hr) rfl
                      have Hc3 := H50.out.get 3 (.bool hw) rfl
                      have Hc4 := H50.out.get 4 (.bool hx) rfl
                      have Hc5 := H50.out.get 5 (.bool ha) rfl
                      have Hc6 := H50.out.get 6 (.bool hn) rfl
                      have Hc7 := H50.out.get 7 (.int .i64 hs) rfl
                      have Hc8 := H50.out.get 8 (.int .i64 hl) rfl
                      have Xc0 := X50.out.get 0 (.int .i64 hf) rfl
                      have Xc1 := X50.out.get 1 (.int .i64 hm') rfl
                      have Xc2 := X50.out.get 2 (.bool hr) rfl
                      have Xc3 := X50.out.get 3 (.bool hw) rfl
                      have Xc4 := X50.out.get 4 (.bool hx) rfl
                      have Xc5 := X50.out.get 5 (.bool ha) rfl
                      have Xc6 := X50.out.get 6 (.bool hn) rfl
                      have Xc7 := X50.out.get 7 (.int .i64 hs) rfl
                      have Xc8 := X50.out.get 8 (.int .i64 hl) rfl
                      have Fc0 := F50.out.get 0 (.int .i64 fk) rfl
                      have Fc1 := F50.out.get 1 (.int .i64 fs) rfl
                      have Fc2 := F50.out.get 2 (.int .i64 fl) rfl
                      have Fc3 := F50.out.get 3 (.bool fw) rfl
                      have Fc4 := F50.out.get 4 (.int .i64 fp) rfl
                      have Yc0 := Y50.out.get 0 (.int .i64 fk) rfl
                      have Yc1 := Y50.out.get 1 (.int .i64 fs) rfl
                      have Yc2 := Y50.out.get 2 (.int .i64 fl) rfl
                      have Yc3 := Y50.out.get 3 (.bool fw) rfl
                      have Yc4 := Y50.out.get 4 (.int .i64 fp) rfl
                      go_wp2_with fail
                      refine (lnum7_any _ _).mono ?_
                      rintro e w51 ⟨rfl, rfl⟩
                      go_wp2_with fail
                      refine (eqI_any _ _ _ _ _ _ R _ (by omega) rfl rfl O50.out.ints.2 Q50.out.ints.2).mono ?_
                      rintro e w60 ⟨rfl, m60, rfl⟩
                      clear Hc0 Hc1 Hc2 Hc3 Hc4 Hc5 Hc6 Hc7 Hc8 Xc0 Xc1 Xc2 Xc3 Xc4 Xc5 Xc6 Xc7 Xc8 Fc0 Fc1 Fc2 Fc3 Fc4 Yc0 Yc1 Yc2 Yc3 Yc4
                      go_wp2
                      go_roundw
                      case rel => exact ⟨on + 1, by omega, by omega, by go_num, below_drewN BB.out m60⟩
                      case measure => (simp [intOf] <;> omega)
            · have e2 : decide (on < 2) = false := decide_eq_false hot
              have HB := Lib.hid hb
              clear hb
              go_wp2
              go_roundw
              case rel => exact ⟨acc + 1, by omega, by omega, by go_num, HB.out⟩
              case measure => (simp [intOf] <;> omega)
        · have e3 : decide (acc ≤ 3) = false := decide_eq_false hst
          have HB := Lib.hid hb
          clear hb
          go_wp2
          go_roundw
          case rel => exact ⟨k + 1, by omega, by go_num, HB.out⟩
          case measure => simp [intOf]; omega
    · by_cases hq : k < n
      · have hq' : ¬ (k < 10) := by omega
        have HB := Lib.hid hb
        clear hb
        go_wp2_with (go_at_call 16; refine (HW7.out _).mono ?_; rintro e w2 ⟨rfl, hb2⟩)
        go_ret
        exact ⟨rfl, bel_trans (bel_trans B1.out HB.out) hb2⟩
      · have HB := Lib.hid hb
        clear hb
        go_wp2_with (go_at_call 16; refine (HW7.out _).mono ?_; rintro e w2 ⟨rfl, hb2⟩)
        go_ret
        exact ⟨rfl, bel_trans (bel_trans B1.out HB.out) hb2⟩
end Go.Proofs.YtpelolokdmfbdaaGreat
