/- The walk of MemBack. -/
import Derived.Test.YtpnkhijbfnnggaaBackS
namespace Go.Proofs.Ytpnkhijbfnnggaa
open Go.ChangeShapes Go.WideShapes Go.ChangeAt Go.RowKit Go.Deep

set_option maxRecDepth 100000 in
set_option maxHeartbeats 8000000 in
theorem backm_walk (f g : Option Addr) (l cap n d : Nat) (A : Nat → ActV) (w : World) (_hn : n ≤ 1000000000000000) (hA : ActsAt w g n A) :
    Calls Try.prog 4 #[.agg #[.slice f l cap, .slice g n d]] w fun e w' => e = .returned (.bool true) ∧ Below w.heap.size w w' := by
  obtain ⟨W, hW⟩ : ∃ W, W = w.alloc (.cells #[.slice f l cap, .slice g n d] 27) := ⟨_, rfl⟩
  have hb1 : Below w.heap.size w W := by rw [hW]; exact bel_alloc (Below.refl w.heap.size w) _
  have L0 : Loc W w.heap.size 0 (.slice f l cap) := by rw [hW]; exact Loc.new _ _ _ _ 0 _ rfl rfl
  have L1 : Loc W w.heap.size 1 (.slice g n d) := by rw [hW]; exact Loc.new _ _ _ _ 1 _ rfl rfl
  have HA := Lib.hid hA
  clear hA
  go_enter Try.func4, Try.ntmps4
  go_wp2_with fail
  rw [← hW]
  refine (new_ok 3 W (by omega) (by omega)).mono ?_
  simp only [Nat.reduceMul]
  rintro e w1 ⟨f1, c1, rfl, hO1, hb2⟩
  have HB1 := Lib.hid (bel_trans hb1 hb2)
  have HL0 := Lib.hid (L0.below hb2)
  have HL1 := Lib.hid (L1.below hb2)
  have HO1 := Lib.hid hO1
  have hs1 := hb2.size
  have hs2 := L0.lt
  have hz := zero_arr
  obtain ⟨W2, hW2⟩ : ∃ W2, W2 = (w1.alloc (.cells #[.slice f1 24 c1] 24)).alloc (.cells zb 60) := ⟨_, rfl⟩
  have hb12 : Below w1.heap.size w1 W2 := by rw [hW2]; exact bel_alloc (bel_alloc (Below.refl _ _) _) _
  have HBK : Hid (Bk W2 w w1.heap.size (w1.heap.size + 1) (.slice g n d) (.slice f1 24 c1) (bysV (fun _ => 0#64))) := by
    refine ⟨bel_trans HB1.out hb12, by omega, by omega, HL1.out.below hb12, ?_, fun j hj => ?_⟩
    · rw [hW2]; exact (Loc.new w1 _ _ _ 0 _ rfl rfl).alloc _
    · have e0 : bysV (fun _ => 0#64) j = 0 := by unfold bysV rdV; simp; decide
      rw [e0, hW2]
      exact Loc.new _ _ _ _ j _ (by simp) (zb_get j hj)
  have HWO : Hid (WordsAt W2 f1 24 (fun _ => 0#64)) := (hO1.below hb12).words
  have HFB : Hid (∀ a, f1 = some a → a.block ≠ w1.heap.size ∧ a.block ≠ w1.heap.size + 1) := by
    rintro ⟨gg, oo, ss⟩ rfl
    have := (World.ownsRow.lt hO1 gg rfl).2
    simp only
    omega
  clear hb1 hb2 L0 L1 hW hO1 hb12 HO1 HB1 HL0 HL1
  go_wp2_with (go_at_call 14; refine (num_any _ _).mono ?_; rintro e wn ⟨rfl, rfl⟩)
  rw [← hW2]
  clear hW2 hz
  go_loopw [6] (fun i wr => ∃ (k : Nat) (fm : Option Addr) (cm : Nat) (M : Nat → BitVec 64), k ≤ n ∧ i = .int .i64 k ∧ Hid (Bk wr w w1.heap.size (w1.heap.size + 1) (.slice g n d) (.slice fm 24 cm) (bysV M)) ∧ Hid (WordsAt wr fm 24 M) ∧ Hid (∀ a, fm = some a → a.block ≠ w1.heap.size ∧ a.block ≠ w1.heap.size + 1)) (fun i _ => n - (intOf i).toNat)
  case atStart => exact ⟨0, f1, c1, _, Nat.zero_le _, rfl, HBK, HWO, HFB⟩
  case round =>
    obtain ⟨k, fm, cm, M, hk, rfl, HK, HM, HF⟩ := hrel
    have c1x := HK.out.p1.cell
    by_cases hlt : k < n ∧ k < 30
    · obtain ⟨hlt, hlt'⟩ := hlt
      obtain ⟨b, o, rfl, ha⟩ := HA.out k hlt
      have ha2 := ha.below HK.out.below
      obtain ⟨x0, x1, x2, x3, x4, hnums, hlen, ha1, ha0⟩ := ha2
      have hbw : b < w.heap.size := cell_block ha.c0
      generalize A k = q at *
      have i1 : (0 : Int) ≤ (k : Int) := by omega
      have i2 : (k : Int) < (n : Int) := by omega
      clear hnums hlen ha
      go_upto_region 8 with fail
      go_cut [7] (fun s7 wx => ∃ sz : Int, s7 = .int .i64 sz ∧ wx = wr ∧ Hid (sz = 1 ∨ sz = 2 ∨ sz = 4 ∨ sz = 8))
      case first =>
        have d0 := within_lo q.s 4 (by omega)
        have d1 := within_hi q.s 4 (by omega)
        have hw := within_any q.s 4 wr (by omega) (by omega)
        generalize withinV q.s 4 = ee at d0 d1 hw
        have hee : ee = 0 ∨ ee = 1 ∨ ee = 2 ∨ ee = 3 := by omega
        have HW := Lib.hid hw
        clear hw d0 d1
        rcases hee with rfl | rfl | rfl | rfl
        all_goals
          go_wp2_with (go_at_call 17; refine HW.out.mono ?_; rintro e w6 ⟨rfl, rfl⟩)
          go_meet
          first
            | exact ⟨1, rfl, rfl, .inl rfl⟩
            | exact ⟨2, rfl, rfl, .inr (.inl rfl)⟩
            | exact ⟨4, rfl, rfl, .inr (.inr (.inl rfl))⟩
            | exact ⟨8, rfl, rfl, .inr (.inr (.inr rfl))⟩
      case rest =>
        obtain ⟨sz, rfl, rfl, HSZ⟩ := hcut
        obtain ⟨wr, rfl⟩ : ∃ wr : World, wr = wc := ⟨_, rfl⟩
        go_upto_region 9 with fail
        go_cut [8] (fun s8 wx => ∃ ad : Int, s8 = .int .i64 ad ∧ Hid (0 ≤ ad ∧ ad + sz ≤ 192 ∧ ad % sz = 0) ∧ Hid (Below wr.heap.size wr wx))
        case first =>
          rcases HSZ.out with rfl | rfl | rfl | rfl
          · have d0 := within_lo q.a 192 (by omega)
            have d1 := within_hi q.a 192 (by omega)
            have HW := Lib.hid (fun W => (within_any q.a 192 W (by omega) (by omega)).mono fun _ _ ⟨x, y⟩ => (⟨x, y.symm⟩ : _ ∧ _))
            generalize withinV q.a 192 = ww at d0 d1 HW
            have j1 : IntKind.i64.wrap ww = ww := IntWalk.i64_in _ (by omega)
            have HJ : Hid (0 ≤ ww * 1 ∧ ww * 1 + 1 ≤ 192 ∧ ww * 1 % 1 = 0) := ⟨by omega, by omega, by omega⟩
            go_quiet ((go_at_call 17; exact Calls.quiet_of_same (HW.out _)))
            go_wp2_with fail
            go_meet
            exact ⟨ww, rfl, by have := HJ.out; exact ⟨by omega, by omega, by omega⟩, below_drewN (Below.refl _ _) _⟩
          · have d0 := within_lo q.a 96 (by omega)
            have d1 := within_hi q.a 96 (by omega)
            have HW := Lib.hid (fun W => (within_any q.a 96 W (by omega) (by omega)).mono fun _ _ ⟨x, y⟩ => (⟨x, y.symm⟩ : _ ∧ _))
            generalize withinV q.a 96 = ww at d0 d1 HW
            have j1 : IntKind.i64.wrap (ww * 2) = ww * 2 := IntWalk.i64_in _ (by omega)
            have HJ : Hid (0 ≤ ww * 2 ∧ ww * 2 + 2 ≤ 192 ∧ ww * 2 % 2 = 0) := ⟨by omega, by omega, by omega⟩
            go_quiet ((go_at_call 17; exact Calls.quiet_of_same (HW.out _)))
            go_wp2_with fail
            go_meet
            exact ⟨ww * 2, rfl, HJ, below_drewN (Below.refl _ _) _⟩
          · have d0 := within_lo q.a 48 (by omega)
            have d1 := within_hi q.a 48 (by omega)
            have HW := Lib.hid (fun W => (within_any q.a 48 W (by omega) (by omega)).mono fun _ _ ⟨x, y⟩ => (⟨x, y.symm⟩ : _ ∧ _))
            generalize withinV q.a 48 = ww at d0 d1 HW
            have j1 : IntKind.i64.wrap (ww * 4) = ww * 4 := IntWalk.i64_in _ (by omega)
            have HJ : Hid (0 ≤ ww * 4 ∧ ww * 4 + 4 ≤ 192 ∧ ww * 4 % 4 = 0) := ⟨by omega, by omega, by omega⟩
            go_quiet ((go_at_call 17; exact Calls.quiet_of_same (HW.out _)))
            go_wp2_with fail
            go_meet
            exact ⟨ww * 4, rfl, HJ, below_drewN (Below.refl _ _) _⟩
          · have d0 := within_lo q.a 24 (by omega)
            have d1 := within_hi q.a 24 (by omega)
            have HW := Lib.hid (fun W => (within_any q.a 24 W (by omega) (by omega)).mono fun _ _ ⟨x, y⟩ => (⟨x, y.symm⟩ : _ ∧ _))
            generalize withinV q.a 24 = ww at d0 d1 HW
            have j1 : IntKind.i64.wrap (ww * 8) = ww * 8 := IntWalk.i64_in _ (by omega)
            have HJ : Hid (0 ≤ ww * 8 ∧ ww * 8 + 8 ≤ 192 ∧ ww * 8 % 8 = 0) := ⟨by omega, by omega, by omega⟩
            go_quiet ((go_at_call 17; exact Calls.quiet_of_same (HW.out _)))
            go_wp2_with fail
            go_meet
            exact ⟨ww * 8, rfl, HJ, below_drewN (Below.refl _ _) _⟩
        case rest =>
          obtain ⟨ad, rfl, HAD, HBW9⟩ := hcut
          have HK9 := Lib.hid (HK.out.call HBW9.out)
          have HM9 := Lib.hid (HM.out.below HBW9.out)
          have v9 := keepc HBW9.out x3
          have p9 := HK9.out.p1.cell
          have m9 := HK9.out.m.cell
          clear x0 x1 x2 x3 x4 c1x
          obtain ⟨W9, rfl⟩ : ∃ W9 : World, W9 = wc := ⟨_, rfl⟩
          obtain ⟨a0x, a1x, a2x⟩ := HAD.out
          have hs9 := HK9.out.m.lt
          have hnC : b ≠ W9.heap.size := by have := cell_block v9; simp only at this; omega
          have hnA : w1.heap.size ≠ W9.heap.size := by omega
          have hnB : w.heap.size ≠ W9.heap.size := by have := HK9.out.lo; omega
          have hE := mayE_ok ad sz HSZ.out a0x a1x a2x
          have HE := Lib.hid hE
          clear hE
          go_upto_region 10 with fail
          go_cut [9, 10] (fun s9 s10 wx => ∃ (bx : Nat) (fx : Option Addr) (cx : Nat), s9 = .pointer (some ⟨bx, 0, none⟩) ∧ s10 = .int .i64 0 ∧ Hid (Below W9.heap.size W9 wx) ∧ Hid (Loc wx bx 0 (.slice fx 24 cx)) ∧ Hid (WordsAt wx fx 24 (wrV M ad sz q.v)) ∧ Hid (∀ a, fx = some a → W9.heap.size ≤ a.block))
          case first =>
            go_region_held3 (fun w' => w'.cell? ⟨w1.heap.size, 0, none⟩ = some (.slice fm 24 cm) ∧ w'.cell? ⟨w.heap.size, 1, none⟩ = some (.slice (some ⟨b, o, none⟩) n d) ∧ w'.cell? ⟨b, o + k * 5 + 3, none⟩ = some (.int .u64 (u q.v)))
              (refine ⟨?_, ?_, ?_⟩ <;> (repeat (first | with_reducible assumption | with_reducible refine cell_keep ?_ _ | with_reducible refine cell_drew ?_ | with_reducible refine cell_set _ hnA ?_ | with_reducible refine cell_set _ hnB ?_ | with_reducible refine cell_set _ hnC ?_ | (refine keepc (by assumption) ?_))))
              (first | (go_at_call 29; refine (write_ok _ 24 _ M _ _ _ _ (HM9.out.below (by go_grown)) (by decide) HE.out).mono ?_; rintro e w' ⟨fx, cx, rfl, hOx, hbx⟩; have hq1 := fun (h : W9.heap.size < _) => hbx.cell (p := ⟨W9.heap.size, 0, none⟩) h; have hq2 := fun (h : W9.heap.size < _) => hbx.frozen (p := ⟨W9.heap.size, 0, none⟩) h))
            · clear hq1 hq2
              have HOx := Lib.hid hOx
              have HBx := Lib.hid hbx
              clear hOx hbx
              go_wp2_with fail
              go_meet
              refine ⟨w'.heap.size, fx, cx, rfl, rfl, bel_alloc (bel_trans (Below.drew (Below.refl _ _)) HBx.out) _, Loc.new w' _ _ _ 0 _ rfl rfl, (HOx.out.below (bel_alloc (Below.refl _ _) _)).words, ?_⟩
              rintro ⟨gg, oo, ss⟩ rfl
              exact (World.ownsRow.lt HOx.out gg rfl).1
            · clear hq1 hq2
              have HOx := Lib.hid hOx
              have HBx := Lib.hid hbx
              have LA : Loc (W9.alloc (.cells #[.slice none 0 0] 24)).drew W9.heap.size 0 (.slice none 0 0) := (Loc.new W9 _ _ _ 0 _ rfl rfl).drewN 1
              have HLA := Lib.hid (LA.below hbx)
              have hsA := LA.lt
              clear hOx hbx LA
              go_wp2_with fail
              go_meet
              refine ⟨W9.heap.size, fx, cx, rfl, rfl, (bel_trans (Below.drew (bel_alloc (Below.refl _ _) _)) HBx.out).setCell (Nat.le_refl _) _, HLA.out.put _, (HOx.out.other W9.heap.size 0 _ hsA).words, ?_⟩
              rintro ⟨gg, oo, ss⟩ rfl
              have := (World.ownsRow.lt HOx.out gg rfl).1
              simp only
              omega
          case rest =>
            obtain ⟨bx, fx, cx, rfl, rfl, HB10, HX10, HM10, HF10⟩ := hcut
            obtain ⟨W10, rfl⟩ : ∃ W10 : World, W10 = wc := ⟨_, rfl⟩
            have K10 := HK9.out.call HB10.out
            have v10 := keepc HB10.out v9
            have x10 := HX10.out.cell
            have m10 := K10.m.cell
            have g10 := K10.m.free
            have K11 := K10.setM (.slice fx 24 cx)
            have hlo := K10.lo
            have hbb : w1.heap.size + 1 < W9.heap.size := (HK9.out.bys 0 (by omega)).lt
            have hb1b : b ≠ w1.heap.size := by omega
            have hb2b : b ≠ w1.heap.size + 1 := by omega
            obtain ⟨M', hM'⟩ : ∃ M', M' = wrV M ad sz q.v := ⟨_, rfl⟩
            have HMD : Hid (midB M ad q.v sz.toNat = bysV M') := by rw [hM']; exact midB_done M ad sz q.v a0x (decide_eq_true HSZ.out) a2x
            have HFX : Hid (∀ a, fx = some a → a.block ≠ w1.heap.size ∧ a.block ≠ w1.heap.size + 1) := fun a ha => by have := HF10.out a ha; omega
            have HM11 : Hid (WordsAt (W10.setCell ⟨w1.heap.size, 0, none⟩ (.slice fx 24 cx)) fx 24 M') := by rw [hM']; exact CellsAt.set HM10.out _ _ _ (fun a ha => (HFX.out a ha).1)
            have HK11 := Lib.hid K11
            have HV11 := Lib.hid (cell_set (o' := 0) (.slice fx 24 cx) hb1b v10)
            clear K10 K11 v9 p9 m9 hM' v10 HM10 HM9 HK9 HB10 HX10
            go_wp2_with (go_at_call 14; refine (num_any _ _).mono ?_; rintro e wn ⟨rfl, rfl⟩)
            go_loopw [11] (fun i wv => ∃ j : Nat, j ≤ sz.toNat ∧ i = .int .i64 j ∧ Hid (Bk wv w w1.heap.size (w1.heap.size + 1) (.slice (some ⟨b, o, none⟩) n d) (.slice fx 24 cx) (midB M ad q.v j)) ∧ Hid (WordsAt wv fx 24 M') ∧ Hid (wv.cell? ⟨b, o + k * 5 + 3, none⟩ = some (.int .u64 (u q.v)))) (fun i _ => sz.toNat - (intOf i).toNat)
            case atStart => exact ⟨0, Nat.zero_le _, rfl, by rw [midB_zero]; exact HK11, HM11, HV11⟩
            case round =>
              obtain ⟨j, hj, rfl, HKj, HMj, HVj⟩ := hrel
              have hsz := HSZ.out
              by_cases hjs : (j : Int) < sz
              · have pj := HKj.out.p1.cell
                have vj := HVj.out
                obtain ⟨bj, fj⟩ := HKj.out.bys (ad.toNat + j) (by omega)
                have z1 : (ad + (j : Int)).toNat = ad.toNat + j := by omega
                have z2 : (8 * (j : Int)).toNat = 8 * j := by omega
                have z3 : 0 ≤ ad + (j : Int) := by omega
                have z4 : ad + (j : Int) < 192 := by omega
                have z5 : (j : Int) < 8 := by omega
                have hcut8 : IntKind.u8.wrap (u (q.v >>> (8 * j))) = u (byV q.v j) := by_cut _
                have HHJ := Lib.hid hsz
                clear hsz
                go_wp2_with fail
                go_roundw
                case rel =>
                  refine ⟨j + 1, by have := HHJ.out; omega, by go_num, ?_, CellsAt.set HMj.out _ _ _ (fun a ha => (HFX.out a ha).2), cell_set _ hb2b HVj.out⟩
                  have := HKj.out.setB (ad.toNat + j) (by omega) (u (byV q.v j))
                  rw [midB_succ M ad q.v j a0x] at this
                  exact this
                case measure => have := HHJ.out; simp [intOf]; omega
              · obtain rfl : j = sz.toNat := by omega
                have HKd : Hid (Bk wr w w1.heap.size (w1.heap.size + 1) (.slice (some ⟨b, o, none⟩) n d) (.slice fx 24 cx) (bysV M')) := by have := HKj; rw [HMD.out] at this; exact this
                clear HKj hsz HVj
                obtain ⟨wo, rfl⟩ : ∃ wo : World, wo = wr := ⟨_, rfl⟩
                go_wp2_with fail
                go_loopw [12] (fun s wv => ∃ e : Int, s = .int .i64 e ∧ Hid (e = 1 ∨ e = 2 ∨ e = 4 ∨ e = 8 ∨ e = 16) ∧ Hid (Bk wv w w1.heap.size (w1.heap.size + 1) (.slice (some ⟨b, o, none⟩) n d) (.slice fx 24 cx) (bysV M')) ∧ Hid (WordsAt wv fx 24 M')) (fun s _ => 16 - (intOf s).toNat)
                case atStart => exact ⟨1, rfl, .inl rfl, HKd, HMj⟩
                case round =>
                  obtain ⟨e, rfl, HEe, HKe, HMe⟩ := hrel
                  have hee := HEe.out
                  by_cases h16 : e = 16
                  · subst h16
                    go_wp2_with fail
                    go_roundw
                    case rel => exact ⟨k + 1, fx, cx, M', by omega, by go_num, HKe, HMe, HFX⟩
                    case measure => simp [intOf]; omega
                  · have HE4 : Hid (e = 1 ∨ e = 2 ∨ e = 4 ∨ e = 8) := by show _ ∨ _; omega
                    have e8 : e ≤ 8 := by omega
                    clear hee h16
                    go_upto_region 21 with fail
                    go_cut [13] (fun s13 wx => ∃ bq : Int, s13 = .int .i64 bq ∧ Hid (Below wr.heap.size wr wx) ∧ Hid (0 ≤ bq ∧ bq + e ≤ 192 ∧ bq % e = 0))
                    case first =>
                      have HAA : Hid (0 ≤ ad ∧ ad < 192) := ⟨a0x, by have := HSZ.out; omega⟩
                      have ad1 : ad < 192 := HAA.out.2
                      rcases HE4.out with rfl | rfl | rfl | rfl
                      · go_wp2_with fail
                        go_meet
                        exact ⟨ad, rfl, Below.refl _ _, by have := HAA.out; exact ⟨by omega, by omega, by omega⟩⟩
                      · go_wp2_with fail
                        go_meet
                        exact ⟨ad / 2 * 2, rfl, Below.refl _ _, by have := HAA.out; exact ⟨by omega, by omega, by omega⟩⟩
                      · go_wp2_with fail
                        go_meet
                        exact ⟨ad / 4 * 4, rfl, Below.refl _ _, by have := HAA.out; exact ⟨by omega, by omega, by omega⟩⟩
                      · go_wp2_with fail
                        go_meet
                        exact ⟨ad / 8 * 8, rfl, Below.refl _ _, by have := HAA.out; exact ⟨by omega, by omega, by omega⟩⟩
                    case rest =>
                      obtain ⟨bq, rfl, HB13, HBQ⟩ := hcut
                      obtain ⟨b0, b1, b2⟩ := HBQ.out
                      have K13 := HKe.out.call HB13.out
                      have M13 := HMe.out.below HB13.out
                      have m13 := K13.m.cell
                      have HRD := Lib.hid (read_ok fx 24 cx M' bq e wc M13 (by decide) (mayE_ok bq e HE4.out b0 b1 b2))
                      have HK13 := Lib.hid K13
                      have HM13 := Lib.hid M13
                      have HOR : Hid (orB (fun t => rdV M' (bq + (t : Int)) 1) e.toNat = rdV M' bq e) := by
                        have he0 : 0 ≤ e := by have := HE4.out; omega
                        have h2 : bq.toNat % e.toNat = 0 := by
                          have : ((bq.toNat % e.toNat : Nat) : Int) = 0 := by
                            rw [Int.natCast_emod, Int.toNat_of_nonneg b0, Int.toNat_of_nonneg he0]; exact b2
                          omega
                        have h1 := or_rd M' bq.toNat e.toNat (by have := HE4.out; omega) h2
                        rw [show ((bq.toNat : Nat) : Int) = bq from by omega, show ((e.toNat : Nat) : Int) = e from by have := HE4.out; omega] at h1
                        exact h1
                      have HEP : Hid (1 ≤ e) := by have := HE4.out; show _ ≤ _; omega
                      clear K13 M13 b2
                      go_wp2_with fail
                      refine HRD.out.mono ?_
                      rintro ee w14 ⟨rfl, hb14⟩
                      have HK14 := Lib.hid (HK13.out.call hb14)
                      have HM14 := Lib.hid (HM13.out.below hb14)
                      clear hb14 HRD m13
                      go_wp2_with fail
                      go_loopw [16, 17] (fun wt i wv => ∃ j : Nat, (j : Int) ≤ e ∧ i = .int .i64 j ∧ wt = .int .u64 (u (orB (fun t => rdV M' (bq + (t : Int)) 1) j)) ∧ wv = w14) (fun _ i _ => e.toNat - (intOf i).toNat)
                      case atStart => exact ⟨0, by have := HEP.out; omega, rfl, rfl, by first | rfl | trivial⟩
                      case round =>
                        obtain ⟨j, hj, rfl, rfl, rfl⟩ := hrel
                        by_cases hje : (j : Int) < e
                        · have bj := (HK14.out.bys (bq.toNat + j) (by omega)).cell
                          have hby : bysV M' (bq.toNat + j) = u (rdV M' (bq + (j : Int)) 1) := by
                            unfold bysV
                            rw [show ((bq.toNat + j : Nat) : Int) = bq + (j : Int) from by omega]
                          rw [hby] at bj
                          have z1 : (bq + (j : Int)).toNat = bq.toNat + j := by omega
                          have z2 : (8 * (j : Int)).toNat = 8 * j := by omega
                          have z3 : 0 ≤ bq + (j : Int) := by omega
                          have z4 : bq + (j : Int) < 192 := by omega
                          have z5 : (j : Int) < 8 := by omega
                          have HOS : Hid (orB (fun t => rdV M' (bq + (t : Int)) 1) (j + 1) = (orB (fun t => rdV M' (bq + (t : Int)) 1) j ||| (rdV M' (bq + (j : Int)) 1 <<< (8 * j)))) := rfl
                          clear hby
                          generalize orB (fun t => rdV M' (bq + (t : Int)) 1) j = acc at *
                          go_wp2_with fail
                          go_roundw
                          case rel => exact ⟨j + 1, by omega, by go_num, by rw [HOS.out], by first | rfl | trivial⟩
                          case measure => simp [intOf]; omega
                        · have hjn : j = e.toNat := by omega
                          have HR2 : Hid (orB (fun t => rdV M' (bq + (t : Int)) 1) j = rdV M' bq e) := by rw [hjn]; exact HOR
                          have hne : (u (rdV M' bq e) != u (orB (fun t => rdV M' (bq + (t : Int)) 1) j)) = false := by rw [HR2.out]; simp
                          generalize orB (fun t => rdV M' (bq + (t : Int)) 1) j = acc at *
                          clear hjn
                          go_wp2_with (go_at_call 14; refine (num_any _ _).mono ?_; rintro ee wn ⟨rfl, rfl⟩)
                          go_roundw
                          case rel => exact ⟨2 * e, by first | rfl | go_num, by have := HE4.out; show _ ∨ _; omega, HK14, HM14⟩
                          case measure => have := HE4.out; simp [intOf]; omega
    · have HSC : Hid (¬ (k < n ∧ k < 30)) := hlt
      have key : ∀ (fm : Option Addr) (cm : Nat) (M : Nat → BitVec 64), True := fun _ _ _ => trivial
      clear key
      by_cases hq : k < n
      · have hq' : ¬ (k < 30) := by omega
        clear hlt
        go_wp2_with fail
        obtain ⟨wo, rfl⟩ : ∃ wo : World, wo = wr := ⟨_, rfl⟩
        go_loopw [18] (fun i wv => ∃ j : Nat, j ≤ 192 ∧ i = .int .i64 j ∧ Hid (Bk wv w w1.heap.size (w1.heap.size + 1) (.slice g n d) (.slice fm 24 cm) (bysV M)) ∧ Hid (WordsAt wv fm 24 M)) (fun i _ => 192 - (intOf i).toNat)
        case atStart => exact ⟨0, Nat.zero_le _, rfl, HK, HM⟩
        case round =>
          obtain ⟨j, hj, rfl, HKj, HMj⟩ := hrel
          by_cases hj2 : j < 192
          · have mj := HKj.out.m.cell
            have HRD := Lib.hid (read_ok fm 24 cm M (j : Int) 1 wr HMj.out (by decide) (mayE_ok (j : Int) 1 (.inl rfl) (by omega) (by omega) (by omega)))
            have j1 : (0 : Int) ≤ (j : Int) := by omega
            have j2 : (j : Int) < 192 := by omega
            go_wp2_with fail
            refine HRD.out.mono ?_
            rintro ee w14 ⟨rfl, hb14⟩
            have HK14 := Lib.hid (HKj.out.call hb14)
            have HM14 := Lib.hid (HMj.out.below hb14)
            have bj : w14.cell? ⟨w1.heap.size + 1, j, none⟩ = some (.int .u8 (u (rdV M (j : Int) 1))) := (HK14.out.bys j hj2).cell
            clear hb14 HRD mj
            go_wp2_with (go_at_call 14; refine (num_any _ _).mono ?_; rintro ee wn ⟨rfl, rfl⟩)
            go_roundw
            case rel => exact ⟨j + 1, by omega, by go_num, HK14, HM14⟩
            case measure => simp [intOf]; omega
          · have hj3 : ¬ (j : Int) < 192 := by omega
            go_wp2_with fail
            refine (new_no 0 _ (by omega)).mono ?_
            rintro ee w20 ⟨rfl, hb20⟩
            have HB20 := Lib.hid (bel_alloc (bel_trans HKj.out.below hb20) (.cells #[.slice none 0 0] 24))
            clear hb20
            go_wp2_with fail
            refine (new_no 65 _ (by omega)).mono ?_
            rintro ee w21 ⟨rfl, hb21⟩
            have HB21 := Lib.hid (bel_alloc (bel_trans HB20.out hb21) (.cells #[.slice none 0 0] 24))
            clear hb21
            go_wp2_with (first
              | (go_at_call 14; refine (num_any _ _).mono ?_; rintro ee wn ⟨rfl, rfl⟩)
              | (go_at_call 31; refine (wakes_any _).mono ?_; rintro ee w22 ⟨rfl, hb22⟩))
            go_ret
            exact ⟨rfl, bel_trans HB21.out hb22⟩
      · clear hlt
        go_wp2_with fail
        obtain ⟨wo, rfl⟩ : ∃ wo : World, wo = wr := ⟨_, rfl⟩
        go_loopw [18] (fun i wv => ∃ j : Nat, j ≤ 192 ∧ i = .int .i64 j ∧ Hid (Bk wv w w1.heap.size (w1.heap.size + 1) (.slice g n d) (.slice fm 24 cm) (bysV M)) ∧ Hid (WordsAt wv fm 24 M)) (fun i _ => 192 - (intOf i).toNat)
        case atStart => exact ⟨0, Nat.zero_le _, rfl, HK, HM⟩
        case round =>
          obtain ⟨j, hj, rfl, HKj, HMj⟩ := hrel
          by_cases hj2 : j < 192
          · have mj := HKj.out.m.cell
            have HRD := Lib.hid (read_ok fm 24 cm M (j : Int) 1 wr HMj.out (by decide) (mayE_ok (j : Int) 1 (.inl rfl) (by omega) (by omega) (by omega)))
            have j1 : (0 : Int) ≤ (j : Int) := by omega
            have j2 : (j : Int) < 192 := by omega
            go_wp2_with fail
            refine HRD.out.mono ?_
            rintro ee w14 ⟨rfl, hb14⟩
            have HK14 := Lib.hid (HKj.out.call hb14)
            have HM14 := Lib.hid (HMj.out.below hb14)
            have bj : w14.cell? ⟨w1.heap.size + 1, j, none⟩ = some (.int .u8 (u (rdV M (j : Int) 1))) := (HK14.out.bys j hj2).cell
            clear hb14 HRD mj
            go_wp2_with (go_at_call 14; refine (num_any _ _).mono ?_; rintro ee wn ⟨rfl, rfl⟩)
            go_roundw
            case rel => exact ⟨j + 1, by omega, by go_num, HK14, HM14⟩
            case measure => simp [intOf]; omega
          · have hj3 : ¬ (j : Int) < 192 := by omega
            go_wp2_with fail
            refine (new_no 0 _ (by omega)).mono ?_
            rintro ee w20 ⟨rfl, hb20⟩
            have HB20 := Lib.hid (bel_alloc (bel_trans HKj.out.below hb20) (.cells #[.slice none 0 0] 24))
            clear hb20
            go_wp2_with fail
            refine (new_no 65 _ (by omega)).mono ?_
            rintro ee w21 ⟨rfl, hb21⟩
            have HB21 := Lib.hid (bel_alloc (bel_trans HB20.out hb21) (.cells #[.slice none 0 0] 24))
            clear hb21
            go_wp2_with (first
              | (go_at_call 14; refine (num_any _ _).mono ?_; rintro ee wn ⟨rfl, rfl⟩)
              | (go_at_call 31; refine (wakes_any _).mono ?_; rintro ee w22 ⟨rfl, hb22⟩))
            go_ret
            exact ⟨rfl, bel_trans HB21.out hb22⟩
end Go.Proofs.Ytpnkhijbfnnggaa
