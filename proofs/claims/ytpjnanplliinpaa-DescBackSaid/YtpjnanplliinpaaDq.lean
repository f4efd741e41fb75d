/- The walk of the statements of one stage and one level. -/
import Derived.Test.YtpjnanplliinpaaDn
import Derived.Test.YtpjnanplliinpaaLt
import Derived.Deep.DeepCutAuto
namespace Go.Proofs.Ytpjnanplliinpaa
open Go.ChangeShapes Go.WideShapes Go.ChangeAt Go.RowKit Go.Deep

theorem at_empty (st lv : Int) (a : Option Addr) (cap : Nat) (w : World) :
    Calls Try.prog 30 #[.slice a 0 cap, .int .i64 st, .int .i64 lv] w fun e w' => e = .returned (.bool true) ∧ Below w.heap.size w w' := by
  go_enter Try.func30, Try.ntmps30
  go_wp2
  refine wp_loop_rounds 1 ?_
  rw [rounds_succ]
  go_wp2_with (go_at_call 26; refine (wakes_any _).mono ?_; rintro e w' ⟨rfl, hb⟩)
  go_ret
  exact ⟨rfl, hb⟩

/-- The first step: a leaf's frame is cut. -/
theorem frame_row (w1 : World) (G : Nat) (d : Dsc) (f : Int) (h : BoxAt w1 G #[.int .i64 d.k, .int .i64 d.f, .bool d.r, .bool d.w, .bool d.x, .bool d.a, .bool d.n, .int .i64 d.s, .int .i64 d.o] 26) : BoxAt (w1.setCell ⟨G, 1, none⟩ (.int .i64 f)) G #[.int .i64 ({ d with f := f } : Dsc).k, .int .i64 ({ d with f := f } : Dsc).f, .bool ({ d with f := f } : Dsc).r, .bool ({ d with f := f } : Dsc).w, .bool ({ d with f := f } : Dsc).x, .bool ({ d with f := f } : Dsc).a, .bool ({ d with f := f } : Dsc).n, .int .i64 ({ d with f := f } : Dsc).s, .int .i64 ({ d with f := f } : Dsc).o] 26 :=
  h.set 1 (.int .i64 f) _ rfl

def bitK (v : BitVec 64) (j : Int) : BitVec 64 := v ^^^ (1#64 <<< j.toNat)
theorem bitK_eq (v : BitVec 64) (j : Int) : bits .xor .u64 (u v) (IntKind.u64.wrap (2 ^ j.toNat)) = u (bitK v j) := by
  have : IntKind.u64.wrap (2 ^ j.toNat) = u (1#64 <<< j.toNat) := by
    rw [← u_shl, show u 1#64 = 1 from by decide, Int.one_mul]
  rw [this, u_xor]; rfl

set_option maxRecDepth 100000 in
set_option maxHeartbeats 12800000 in
theorem at_walk (b off len cap : Nat) (w : World) (st lv : Int) (q : Nat → Q3) (hp : placeB st lv = true) (hc : ∀ i, i < len → Ask3 w b (off + i * 13) (q i)) :
    Calls Try.prog 30 #[.slice (some ⟨b, off, none⟩) len cap, .int .i64 st, .int .i64 lv] w fun e w' => e = .returned (.bool true) ∧ Below w.heap.size w w' := by
  have HC := Lib.hid hc
  have HPL := Lib.hid hp
  clear hc
  obtain ⟨hst, hl0, hl3⟩ := placeB_iff.1 hp
  have HST := Lib.hid hst
  clear hst hp
  go_enter Try.func30, Try.ntmps30
  go_wp2
  go_loopw [7] (fun i wr => ∃ k : Nat, k ≤ len ∧ i = .int .i64 k ∧ Below w.heap.size w wr) (fun i _ => len - (intOf i).toNat)
  case atStart => exact ⟨0, Nat.zero_le _, rfl, Below.refl _ _⟩
  case round =>
    obtain ⟨k, hk, rfl, hb⟩ := hrel
    by_cases hlt : k < len ∧ k < 12
    · obtain ⟨hlt, hlt'⟩ := hlt
      have i1 : (0 : Int) ≤ (k : Int) := by omega
      have i2 : (k : Int) < (len : Int) := by omega
      have d12 : decide ((k : Int) < 12) = true := decide_eq_true (by omega)
      have HQ := Lib.hid (HC.out k hlt)
      generalize q k = qk at *
      obtain ⟨qs, ql, qp, ⟨dk, df, dr, dw, dx, da, dn, ds, d0⟩, qw⟩ := qk
      have HA := Lib.hid (HQ.out.below hb)
      have c3 : wr.cell? ⟨b, off + k * 13 + 3, none⟩ = some (.int .i64 dk) := HA.out.c 3 (by decide)
      have c4 : wr.cell? ⟨b, off + k * 13 + 4, none⟩ = some (.int .i64 df) := HA.out.c 4 (by decide)
      have c5 : wr.cell? ⟨b, off + k * 13 + 5, none⟩ = some (.bool dr) := HA.out.c 5 (by decide)
      have c6 : wr.cell? ⟨b, off + k * 13 + 6, none⟩ = some (.bool dw) := HA.out.c 6 (by decide)
      have c7 : wr.cell? ⟨b, off + k * 13 + 7, none⟩ = some (.bool dx) := HA.out.c 7 (by decide)
      have c8 : wr.cell? ⟨b, off + k * 13 + 8, none⟩ = some (.bool da) := HA.out.c 8 (by decide)
      have c9 : wr.cell? ⟨b, off + k * 13 + 9, none⟩ = some (.bool dn) := HA.out.c 9 (by decide)
      have c10 : wr.cell? ⟨b, off + k * 13 + 10, none⟩ = some (.int .i64 ds) := HA.out.c 10 (by decide)
      have c11 : wr.cell? ⟨b, off + k * 13 + 11, none⟩ = some (.int .i64 d0) := HA.out.c 11 (by decide)
      have HBX := Lib.hid (BoxAt.new wr #[.int .i64 dk, .int .i64 df, .bool dr, .bool dw, .bool dx, .bool da, .bool dn, .int .i64 ds, .int .i64 d0] 26)
      have HB0 := Lib.hid (bel_alloc hb (.cells #[.int .i64 dk, .int .i64 df, .bool dr, .bool dw, .bool dx, .bool da, .bool dn, .int .i64 ds, .int .i64 d0] 26))
      have hG0 : w.heap.size ≤ wr.heap.size := hb.size
      clear hb
      go_upto_region 5 with fail
      clear c3 c4 c5 c6 c7 c8 c9 c10 c11 HA
      obtain ⟨w0, hw0⟩ : ∃ w0, w0 = wr.alloc (.cells #[.int .i64 dk, .int .i64 df, .bool dr, .bool dw, .bool dx, .bool da, .bool dn, .int .i64 ds, .int .i64 d0] 26) := ⟨_, rfl⟩
      rw [← hw0] at HBX HB0 ⊢
      obtain ⟨G, hG⟩ : ∃ G, G = wr.heap.size := ⟨_, rfl⟩
      rw [← hG] at HBX hG0 ⊢
      clear hw0 hG
      go_cut [45] (fun s45 wx => ∃ bb : Bool, s45 = .bool bb ∧ w0 = wx ∧ Hid (bb = true → 0 ≤ df ∧ df ≤ 4095))
      case first =>
        have v0 := HBX.out.get 0 (.int .i64 dk) rfl
        have v1 := HBX.out.get 1 (.int .i64 df) rfl
        have HPG := Lib.hid (fun W => page_any df W)
        by_cases hk2 : dk = 2
        · subst hk2
          by_cases hl : lv = 0
          · subst hl
            go_wp2_with fail
            go_meet
            exact ⟨false, rfl, rfl, fun h => by cases h⟩
          · have hl' : 0 < lv := by omega
            clear hl
            cases hf : numB df 4095
            · rw [hf] at HPG
              clear hf
              go_wp2_with (go_at_call 24; refine (HPG.out _).mono ?_; rintro e w2 ⟨rfl, rfl⟩)
              go_meet
              exact ⟨false, rfl, rfl, fun h => by cases h⟩
            · have hf2 := Lib.hid (numB_iff.1 hf)
              rw [hf] at HPG
              clear hf
              go_wp2_with (go_at_call 24; refine (HPG.out _).mono ?_; rintro e w2 ⟨rfl, rfl⟩)
              go_meet
              exact ⟨true, rfl, rfl, fun _ => hf2.out⟩
        · have t2 : (dk == 2) = false := by simpa using hk2
          clear hk2
          go_wp2_with fail
          go_meet
          exact ⟨false, rfl, rfl, fun h => by cases h⟩
      case rest =>
      obtain ⟨bb, rfl, rfl, HBB⟩ := hcut
      go_upto_if 45 with fail
      go_cut [] (fun wx => ∃ d : Dsc, Hid (Below w.heap.size w wx) ∧ Hid (BoxAt wx G #[.int .i64 d.k, .int .i64 d.f, .bool d.r, .bool d.w, .bool d.x, .bool d.a, .bool d.n, .int .i64 d.s, .int .i64 d.o] 26))
      case first =>
        cases bb
        · go_wp2_with fail
          go_meet
          exact ⟨(Dsc.mk dk df dr dw dx da dn ds d0), HB0, HBX⟩
        · obtain ⟨f0, f1⟩ := HBB.out rfl
          have HRC := Lib.hid (fun W => rcovers_any lv W hl0 hl3)
          have hcv := cov_pos lv
          generalize cov lv = c at *
          obtain ⟨c1, c2⟩ := hcv
          have hc0 : c ≠ 0 := by omega
          have m1 : df.tmod c = df % c := Int.tmod_eq_emod_of_nonneg f0
          have m2 : 0 ≤ df % c := Int.emod_nonneg _ hc0
          have m3 : df % c < c := Int.emod_lt_of_pos _ (by omega)
          have m4 : IntKind.i64.wrap (df - df % c) = df - df % c := IntWalk.i64_in _ (by omega)
          go_wp2_with fail
          refine wp_region_late 9 (fun w' => Below w.heap.size w w' ∧ BoxAt w' G #[.int .i64 dk, .int .i64 df, .bool dr, .bool dw, .bool dx, .bool da, .bool dn, .int .i64 ds, .int .i64 d0] 26) (by kernel_rfl) ?_
          have hS : Below w.heap.size w w0.drew ∧ BoxAt w0.drew G #[.int .i64 dk, .int .i64 df, .bool dr, .bool dw, .bool dx, .bool da, .bool dn, .int .i64 ds, .int .i64 d0] 26 := ⟨Below.drew HB0.out, HBX.out.drew⟩
          refine late_take 0 (oi := ⟨some 46, _, _, _, _, _⟩) (v := ?_) rfl (by kernel_rfl) (by kernel_rfl) (by kernel_rfl) (by kernel_rfl) (fun _ _ _ h => h) hS (Or.inl ⟨by rfl, ?_⟩) ?_
          rotate_left
          · (intro w' hSw; have s1 := hSw.2.get 1 (.int .i64 df) rfl; go_simp; try with_reducible rfl)
          simp only [Act.put, List.setIfInBounds_toArray, List.set_cons_zero, List.set_cons_succ]
          refine late_take 1 (oi := ⟨some 47, _, _, _, _, _⟩) (v := ?_) rfl (by kernel_rfl) (by kernel_rfl) (by kernel_rfl) (by kernel_rfl) (fun _ _ _ h => h) hS (Or.inl ⟨by rfl, ?_⟩) ?_
          rotate_left
          · (intro w' hSw; have s1 := hSw.2.get 1 (.int .i64 df) rfl; go_simp; try with_reducible rfl)
          simp only [Act.put, List.setIfInBounds_toArray, List.set_cons_zero, List.set_cons_succ]
          refine late_take 2 (oi := ⟨some 48, _, _, _, _, _⟩) (v := ?_) rfl (by kernel_rfl) (by kernel_rfl) (by kernel_rfl) (by kernel_rfl) (fun _ _ _ h => h) hS (Or.inl ⟨by rfl, ?_⟩) ?_
          rotate_left
          · (intro w' hSw; have s1 := hSw.2.get 1 (.int .i64 df) rfl; go_simp; try with_reducible rfl)
          simp only [Act.put, List.setIfInBounds_toArray, List.set_cons_zero, List.set_cons_succ]
          refine late_take 3 (oi := ⟨some 49, _, _, _, _, _⟩) (v := ?_) rfl (by kernel_rfl) (by kernel_rfl) (by kernel_rfl) (by kernel_rfl) (fun _ _ _ h => h) hS (Or.inl ⟨by rfl, ?_⟩) ?_
          rotate_left
          · (intro w' hSw; have s1 := hSw.2.get 1 (.int .i64 df) rfl; go_simp; try with_reducible rfl)
          simp only [Act.put, List.setIfInBounds_toArray, List.set_cons_zero, List.set_cons_succ]
          refine late_take 4 (oi := ⟨some 50, _, _, _, _, _⟩) (v := ?_) rfl (by kernel_rfl) (by kernel_rfl) (by kernel_rfl) (by kernel_rfl) (fun _ _ _ h => h) hS (Or.inl ⟨by rfl, ?_⟩) ?_
          rotate_left
          · (intro w' hSw; have s1 := hSw.2.get 1 (.int .i64 df) rfl; go_simp; try with_reducible rfl)
          simp only [Act.put, List.setIfInBounds_toArray, List.set_cons_zero, List.set_cons_succ]
          refine late_one 5 (o := ⟨some 51, _, _, _, _, _⟩) (by kernel_rfl) rfl (fun K hK => ?_)
          go_simp
          refine (HRC.out _).mono ?_
          rintro e w1 ⟨rfl, hb1⟩
          refine hK.out _ _ ?_ (fun hS' => ?_)
          · (exact ⟨bel_trans hS.1 hb1, hS.2.below hb1⟩)
          clear hK K hS
          have hS := hS'
          clear hS'
          try simp only [Act.put, List.setIfInBounds_toArray, List.set_cons_zero, List.set_cons_succ]
          refine late_take 6 (oi := ⟨some 52, _, _, _, _, _⟩) (v := ?_) rfl (by kernel_rfl) (by kernel_rfl) (by kernel_rfl) (by kernel_rfl) (fun _ _ _ h => h) hS (Or.inl ⟨by rfl, ?_⟩) ?_
          rotate_left
          · (intro w' hSw; have s1 := hSw.2.get 1 (.int .i64 df) rfl; go_simp; try with_reducible rfl)
          simp only [Act.put, List.setIfInBounds_toArray, List.set_cons_zero, List.set_cons_succ]
          refine late_take 7 (oi := ⟨some 53, _, _, _, _, _⟩) (v := ?_) rfl (by kernel_rfl) (by kernel_rfl) (by kernel_rfl) (by kernel_rfl) (fun _ _ _ h => h) hS (Or.inl ⟨by rfl, ?_⟩) ?_
          rotate_left
          · (intro w' hSw; have s1 := hSw.2.get 1 (.int .i64 df) rfl; go_simp; try with_reducible rfl)
          simp only [Act.put, List.setIfInBounds_toArray, List.set_cons_zero, List.set_cons_succ]
          refine late_take 8 (oi := ⟨some 54, _, _, _, _, _⟩) (v := ?_) rfl (by kernel_rfl) (by kernel_rfl) (by kernel_rfl) (by kernel_rfl) (fun _ _ _ h => h) hS (Or.inl ⟨by rfl, ?_⟩) ?_
          rotate_left
          · (intro w' hSw; have s1 := hSw.2.get 1 (.int .i64 df) rfl; go_simp; try with_reducible rfl)
          simp only [Act.put, List.setIfInBounds_toArray, List.set_cons_zero, List.set_cons_succ]
          refine late_last (by kernel_rfl) (by kernel_rfl) rfl (fun K hK => ?_)
          have z1 := hS.2.free 1
          have s1 := hS.2.get 1 (.int .i64 df) rfl
          go_simp
          refine hK.out _ _ ?_
          clear hK K
          go_wp2_with fail
          go_meet
          exact ⟨(Dsc.mk dk (df - df % c) dr dw dx da dn ds d0), (hS.1.setCell hG0 _), (hS.2.set 1 (.int .i64 (df - df % c)) _ rfl)⟩
      case rest =>
        obtain ⟨d1, HB1, HX1⟩ := hcut
        clear HBX HB0
        go_wp2_with fail
        go_loopw [9] (fun t wi => ∃ (j : Nat) (d : Dsc), j ≤ 2 ∧ t = .int .i64 j ∧ Below w.heap.size w wi ∧ Hid (BoxAt wi G #[.int .i64 d.k, .int .i64 d.f, .bool d.r, .bool d.w, .bool d.x, .bool d.a, .bool d.n, .int .i64 d.s, .int .i64 d.o] 26)) (fun t _ => 2 - (intOf t).toNat)
        case atStart => exact ⟨0, d1, by decide, rfl, HB1.out, HX1⟩
        case round =>
          obtain ⟨j, ⟨ek, ef, er, ew, ex, ea, en, es, e0⟩, hj, rfl, hb, X0⟩ := hrel
          simp only at X0
          by_cases hj2 : j < 2
          · have B0 := Lib.hid hb
            clear hb
            have hj3 : (j : Int) < 2 := by omega
            cases hm : mayD st lv (Dsc.mk ek ef er ew ex ea en es e0)
            · by_cases h1 : st = 1
              · subst h1
                have hE : mayE 1 lv (Dsc.mk ek ef er ew ex ea en es e0) = false := by (unfold mayE; rw [HPL.out, hm]; rfl)
                have HW := Lib.hid (fun W => dword_no 1 lv ek ef er ew ex ea en es e0 W hE)
                have HD := Lib.hid (fun W => rdesc_any 1 lv ek ef er ew ex ea en es e0 W HPL.out)
                rw [hm] at HD
                clear hm hE
                have Xc0 := X0.out.get 0 (.int .i64 ek) rfl
                have Xc1 := X0.out.get 1 (.int .i64 ef) rfl
                have Xc2 := X0.out.get 2 (.bool er) rfl
                have Xc3 := X0.out.get 3 (.bool ew) rfl
                have Xc4 := X0.out.get 4 (.bool ex) rfl
                have Xc5 := X0.out.get 5 (.bool ea) rfl
                have Xc6 := X0.out.get 6 (.bool en) rfl
                have Xc7 := X0.out.get 7 (.int .i64 es) rfl
                have Xc8 := X0.out.get 8 (.int .i64 e0) rfl
                go_wp2_with fail
                clear Xc0 Xc1 Xc2 Xc3 Xc4 Xc5 Xc6 Xc7 Xc8
                refine (HW.out _).mono ?_
                rintro e w11 ⟨rfl, hb11⟩
                have X11 := Lib.hid (X0.out.below hb11)
                have B11 := Lib.hid (bel_trans B0.out hb11)
                clear X0 B0 hb11
                have Xc0 := X11.out.get 0 (.int .i64 ek) rfl
                have Xc1 := X11.out.get 1 (.int .i64 ef) rfl
                have Xc2 := X11.out.get 2 (.bool er) rfl
                have Xc3 := X11.out.get 3 (.bool ew) rfl
                have Xc4 := X11.out.get 4 (.bool ex) rfl
                have Xc5 := X11.out.get 5 (.bool ea) rfl
                have Xc6 := X11.out.get 6 (.bool en) rfl
                have Xc7 := X11.out.get 7 (.int .i64 es) rfl
                have Xc8 := X11.out.get 8 (.int .i64 e0) rfl
                go_wp2_with fail
                clear Xc0 Xc1 Xc2 Xc3 Xc4 Xc5 Xc6 Xc7 Xc8
                refine (HD.out _).mono ?_
                rintro e w12 ⟨rfl, hb12⟩
                have X12 := Lib.hid (X11.out.below hb12)
                have B12 := Lib.hid (bel_trans B11.out hb12)
                clear X11 B11 hb12
                have Xc0 := X12.out.get 0 (.int .i64 ek) rfl
                have Xc1 := X12.out.get 1 (.int .i64 ef) rfl
                have Xc2 := X12.out.get 2 (.bool er) rfl
                have Xc3 := X12.out.get 3 (.bool ew) rfl
                have Xc4 := X12.out.get 4 (.bool ex) rfl
                have Xc5 := X12.out.get 5 (.bool ea) rfl
                have Xc6 := X12.out.get 6 (.bool en) rfl
                have Xc7 := X12.out.get 7 (.int .i64 es) rfl
                have Xc8 := X12.out.get 8 (.int .i64 e0) rfl
                have Xz2 := X12.out.free 2
                have Xz7 := X12.out.free 7
                have Xz8 := X12.out.free 8
                go_wp2_with (first | (go_at_call 18; refine (lnum_any _ _).mono ?_; rintro e w3 ⟨rfl, rfl⟩))
                clear Xc0 Xc1 Xc2 Xc3 Xc4 Xc5 Xc6 Xc7 Xc8 Xz2 Xz7 Xz8
                have X13 := Lib.hid (X12.out.set 2 (.bool true) #[.int .i64 ek, .int .i64 ef, .bool true, .bool ew, .bool ex, .bool ea, .bool en, .int .i64 es, .int .i64 e0] rfl)
                have B13 := Lib.hid (Below.setCell B12.out (p := ⟨G, 2, none⟩) (by first | assumption | (simp; done) | (simp; omega)) (.bool true))
                clear X12 B12
                have X14 := Lib.hid (X13.out.set 7 (.int .i64 0) #[.int .i64 ek, .int .i64 ef, .bool true, .bool ew, .bool ex, .bool ea, .bool en, .int .i64 0, .int .i64 e0] rfl)
                have B14 := Lib.hid (Below.setCell B13.out (p := ⟨G, 7, none⟩) (by first | assumption | (simp; done) | (simp; omega)) (.int .i64 0))
                clear X13 B13
                have X15 := Lib.hid (X14.out.set 8 (.int .i64 0) #[.int .i64 ek, .int .i64 ef, .bool true, .bool ew, .bool ex, .bool ea, .bool en, .int .i64 0, .int .i64 0] rfl)
                have B15 := Lib.hid (Below.setCell B14.out (p := ⟨G, 8, none⟩) (by first | assumption | (simp; done) | (simp; omega)) (.int .i64 0))
                clear X14 B14
                go_roundw
                case rel => exact ⟨j + 1, (Dsc.mk ek ef true ew ex ea en 0 0), by omega, by go_num, B15.out, X15⟩
                case measure => simp [intOf]; omega
              · have t1 : (st == 1) = false := by simpa using h1
                clear h1
                have hE : mayE st lv (Dsc.mk ek ef er ew ex ea en es e0) = false := by (unfold mayE; rw [HPL.out, hm]; rfl)
                have HW := Lib.hid (fun W => dword_no st lv ek ef er ew ex ea en es e0 W hE)
                have HD := Lib.hid (fun W => rdesc_any st lv ek ef er ew ex ea en es e0 W HPL.out)
                rw [hm] at HD
                clear hm hE
                have Xc0 := X0.out.get 0 (.int .i64 ek) rfl
                have Xc1 := X0.out.get 1 (.int .i64 ef) rfl
                have Xc2 := X0.out.get 2 (.bool er) rfl
                have Xc3 := X0.out.get 3 (.bool ew) rfl
                have Xc4 := X0.out.get 4 (.bool ex) rfl
                have Xc5 := X0.out.get 5 (.bool ea) rfl
                have Xc6 := X0.out.get 6 (.bool en) rfl
                have Xc7 := X0.out.get 7 (.int .i64 es) rfl
                have Xc8 := X0.out.get 8 (.int .i64 e0) rfl
                go_wp2_with fail
                clear Xc0 Xc1 Xc2 Xc3 Xc4 Xc5 Xc6 Xc7 Xc8
                refine (HW.out _).mono ?_
                rintro e w11 ⟨rfl, hb11⟩
                have X11 := Lib.hid (X0.out.below hb11)
                have B11 := Lib.hid (bel_trans B0.out hb11)
                clear X0 B0 hb11
                have Xc0 := X11.out.get 0 (.int .i64 ek) rfl
                have Xc1 := X11.out.get 1 (.int .i64 ef) rfl
                have Xc2 := X11.out.get 2 (.bool er) rfl
                have Xc3 := X11.out.get 3 (.bool ew) rfl
                have Xc4 := X11.out.get 4 (.bool ex) rfl
                have Xc5 := X11.out.get 5 (.bool ea) rfl
                have Xc6 := X11.out.get 6 (.bool en) rfl
                have Xc7 := X11.out.get 7 (.int .i64 es) rfl
                have Xc8 := X11.out.get 8 (.int .i64 e0) rfl
                go_wp2_with fail
                clear Xc0 Xc1 Xc2 Xc3 Xc4 Xc5 Xc6 Xc7 Xc8
                refine (HD.out _).mono ?_
                rintro e w12 ⟨rfl, hb12⟩
                have X12 := Lib.hid (X11.out.below hb12)
                have B12 := Lib.hid (bel_trans B11.out hb12)
                clear X11 B11 hb12
                have Xc0 := X12.out.get 0 (.int .i64 ek) rfl
                have Xc1 := X12.out.get 1 (.int .i64 ef) rfl
                have Xc2 := X12.out.get 2 (.bool er) rfl
                have Xc3 := X12.out.get 3 (.bool ew) rfl
                have Xc4 := X12.out.get 4 (.bool ex) rfl
                have Xc5 := X12.out.get 5 (.bool ea) rfl
                have Xc6 := X12.out.get 6 (.bool en) rfl
                have Xc7 := X12.out.get 7 (.int .i64 es) rfl
                have Xc8 := X12.out.get 8 (.int .i64 e0) rfl
                have Xz6 := X12.out.free 6
                go_wp2_with (first | (go_at_call 18; refine (lnum_any _ _).mono ?_; rintro e w3 ⟨rfl, rfl⟩))
                clear Xc0 Xc1 Xc2 Xc3 Xc4 Xc5 Xc6 Xc7 Xc8 Xz6
                have X13 := Lib.hid (X12.out.set 6 (.bool false) #[.int .i64 ek, .int .i64 ef, .bool er, .bool ew, .bool ex, .bool ea, .bool false, .int .i64 es, .int .i64 e0] rfl)
                have B13 := Lib.hid (Below.setCell B12.out (p := ⟨G, 6, none⟩) (by first | assumption | (simp; done) | (simp; omega)) (.bool false))
                clear X12 B12
                go_roundw
                case rel => exact ⟨j + 1, (Dsc.mk ek ef er ew ex ea false es e0), by omega, by go_num, B13.out, X13⟩
                case measure => simp [intOf]; omega
            · by_cases h1 : st = 1
              · subst h1
                have hE : mayE 1 lv (Dsc.mk ek ef er ew ex ea en es e0) = true := by (unfold mayE; rw [HPL.out, hm]; rfl)
                have HW := Lib.hid (fun W => dword_yes 1 lv ek ef er ew ex ea en es e0 W hE)
                have HD := Lib.hid (fun W => rdesc_any 1 lv ek ef er ew ex ea en es e0 W HPL.out)
                rw [hm] at HD
                have HR := Lib.hid (fun W => rword_any 1 lv ek ef er ew ex ea en es e0 W hm)
                have HO := Lib.hid (fun W => of_any 1 lv (wordD 1 lv (Dsc.mk ek ef er ew ex ea en es e0)) W HPL.out)
                rw [of_word 1 lv (Dsc.mk ek ef er ew ex ea en es e0) HPL.out hm] at HO
                unfold dscV at HO
                simp only at HO
                clear hm hE
                generalize wordD 1 lv (Dsc.mk ek ef er ew ex ea en es e0) = wd at *
                have hq : (u wd != u wd) = false := by simp
                have ez := eqD_self (Dsc.mk ek ef er ew ex ea en es e0)
                have Xc0 := X0.out.get 0 (.int .i64 ek) rfl
                have Xc1 := X0.out.get 1 (.int .i64 ef) rfl
                have Xc2 := X0.out.get 2 (.bool er) rfl
                have Xc3 := X0.out.get 3 (.bool ew) rfl
                have Xc4 := X0.out.get 4 (.bool ex) rfl
                have Xc5 := X0.out.get 5 (.bool ea) rfl
                have Xc6 := X0.out.get 6 (.bool en) rfl
                have Xc7 := X0.out.get 7 (.int .i64 es) rfl
                have Xc8 := X0.out.get 8 (.int .i64 e0) rfl
                go_wp2_with fail
                clear Xc0 Xc1 Xc2 Xc3 Xc4 Xc5 Xc6 Xc7 Xc8
                refine (HW.out _).mono ?_
                rintro e w11 ⟨rfl, hb11⟩
                have X11 := Lib.hid (X0.out.below hb11)
                have B11 := Lib.hid (bel_trans B0.out hb11)
                clear X0 B0 hb11
                have Xc0 := X11.out.get 0 (.int .i64 ek) rfl
                have Xc1 := X11.out.get 1 (.int .i64 ef) rfl
                have Xc2 := X11.out.get 2 (.bool er) rfl
                have Xc3 := X11.out.get 3 (.bool ew) rfl
                have Xc4 := X11.out.get 4 (.bool ex) rfl
                have Xc5 := X11.out.get 5 (.bool ea) rfl
                have Xc6 := X11.out.get 6 (.bool en) rfl
                have Xc7 := X11.out.get 7 (.int .i64 es) rfl
                have Xc8 := X11.out.get 8 (.int .i64 e0) rfl
                go_wp2_with fail
                clear Xc0 Xc1 Xc2 Xc3 Xc4 Xc5 Xc6 Xc7 Xc8
                refine (HD.out _).mono ?_
                rintro e w12 ⟨rfl, hb12⟩
                have X12 := Lib.hid (X11.out.below hb12)
                have B12 := Lib.hid (bel_trans B11.out hb12)
                clear X11 B11 hb12
                have Xc0 := X12.out.get 0 (.int .i64 ek) rfl
                have Xc1 := X12.out.get 1 (.int .i64 ef) rfl
                have Xc2 := X12.out.get 2 (.bool er) rfl
                have Xc3 := X12.out.get 3 (.bool ew) rfl
                have Xc4 := X12.out.get 4 (.bool ex) rfl
                have Xc5 := X12.out.get 5 (.bool ea) rfl
                have Xc6 := X12.out.get 6 (.bool en) rfl
                have Xc7 := X12.out.get 7 (.int .i64 es) rfl
                have Xc8 := X12.out.get 8 (.int .i64 e0) rfl
                go_wp2_with fail
                clear Xc0 Xc1 Xc2 Xc3 Xc4 Xc5 Xc6 Xc7 Xc8
                refine (HR.out _).mono ?_
                rintro e w13 ⟨rfl, hb13⟩
                have X13 := Lib.hid (X12.out.below hb13)
                have B13 := Lib.hid (bel_trans B12.out hb13)
                clear X12 B12 hb13
                go_wp2_with (first | (go_at_call 18; refine (lnum_any _ _).mono ?_; rintro e w3 ⟨rfl, rfl⟩))
                refine (HO.out _).mono ?_
                rintro e w14 ⟨rfl, hb14⟩
                have X14 := Lib.hid (X13.out.below hb14)
                have B14 := Lib.hid (bel_trans B13.out hb14)
                clear X13 B13 hb14
                have Xa := Lib.hid (X14.out.alloc (.cells #[.int .i64 ek, .int .i64 ef, .bool er, .bool ew, .bool ex, .bool ea, .bool en, .int .i64 es, .int .i64 e0] 26))
                have Ba := Lib.hid (bel_alloc B14.out (.cells #[.int .i64 ek, .int .i64 ef, .bool er, .bool ew, .bool ex, .bool ea, .bool en, .int .i64 es, .int .i64 e0] 26))
                have hltx := X14.out.lt
                have hnx : w14.heap.size ≠ G := by omega
                have hny : G ≠ w14.heap.size := by omega
                clear X14 B14 hltx
                have Xc0 := Xa.out.get 0 (.int .i64 ek) rfl
                have Xc1 := Xa.out.get 1 (.int .i64 ef) rfl
                have Xc2 := Xa.out.get 2 (.bool er) rfl
                have Xc3 := Xa.out.get 3 (.bool ew) rfl
                have Xc4 := Xa.out.get 4 (.bool ex) rfl
                have Xc5 := Xa.out.get 5 (.bool ea) rfl
                have Xc6 := Xa.out.get 6 (.bool en) rfl
                have Xc7 := Xa.out.get 7 (.int .i64 es) rfl
                have Xc8 := Xa.out.get 8 (.int .i64 e0) rfl
                have Xz2 := Xa.out.free 2
                have Xz7 := Xa.out.free 7
                have Xz8 := Xa.out.free 8
                go_wp2_with (first | (go_at_call 18; refine (lnum_any _ _).mono ?_; rintro e w3 ⟨rfl, rfl⟩))
                clear Xc0 Xc1 Xc2 Xc3 Xc4 Xc5 Xc6 Xc7 Xc8 Xz2 Xz7 Xz8
                have X15 := Lib.hid (Xa.out.set 2 (.bool true) #[.int .i64 ek, .int .i64 ef, .bool true, .bool ew, .bool ex, .bool ea, .bool en, .int .i64 es, .int .i64 e0] rfl)
                have B15 := Lib.hid (Below.setCell Ba.out (p := ⟨G, 2, none⟩) (by first | assumption | (simp; done) | (simp; omega)) (.bool true))
                clear Xa Ba
                have X16 := Lib.hid (X15.out.set 7 (.int .i64 0) #[.int .i64 ek, .int .i64 ef, .bool true, .bool ew, .bool ex, .bool ea, .bool en, .int .i64 0, .int .i64 e0] rfl)
                have B16 := Lib.hid (Below.setCell B15.out (p := ⟨G, 7, none⟩) (by first | assumption | (simp; done) | (simp; omega)) (.int .i64 0))
                clear X15 B15
                have X17 := Lib.hid (X16.out.set 8 (.int .i64 0) #[.int .i64 ek, .int .i64 ef, .bool true, .bool ew, .bool ex, .bool ea, .bool en, .int .i64 0, .int .i64 0] rfl)
                have B17 := Lib.hid (Below.setCell B16.out (p := ⟨G, 8, none⟩) (by first | assumption | (simp; done) | (simp; omega)) (.int .i64 0))
                clear X16 B16
                go_roundw
                case rel => exact ⟨j + 1, (Dsc.mk ek ef true ew ex ea en 0 0), by omega, by go_num, B17.out, X17⟩
                case measure => simp [intOf]; omega
              · have t1 : (st == 1) = false := by simpa using h1
                clear h1
                have hE : mayE st lv (Dsc.mk ek ef er ew ex ea en es e0) = true := by (unfold mayE; rw [HPL.out, hm]; rfl)
                have HW := Lib.hid (fun W => dword_yes st lv ek ef er ew ex ea en es e0 W hE)
                have HD := Lib.hid (fun W => rdesc_any st lv ek ef er ew ex ea en es e0 W HPL.out)
                rw [hm] at HD
                have HR := Lib.hid (fun W => rword_any st lv ek ef er ew ex ea en es e0 W hm)
                have HO := Lib.hid (fun W => of_any st lv (wordD st lv (Dsc.mk ek ef er ew ex ea en es e0)) W HPL.out)
                rw [of_word st lv (Dsc.mk ek ef er ew ex ea en es e0) HPL.out hm] at HO
                unfold dscV at HO
                simp only at HO
                clear hm hE
                generalize wordD st lv (Dsc.mk ek ef er ew ex ea en es e0) = wd at *
                have hq : (u wd != u wd) = false := by simp
                have ez := eqD_self (Dsc.mk ek ef er ew ex ea en es e0)
                have Xc0 := X0.out.get 0 (.int .i64 ek) rfl
                have Xc1 := X0.out.get 1 (.int .i64 ef) rfl
                have Xc2 := X0.out.get 2 (.bool er) rfl
                have Xc3 := X0.out.get 3 (.bool ew) rfl
                have Xc4 := X0.out.get 4 (.bool ex) rfl
                have Xc5 := X0.out.get 5 (.bool ea) rfl
                have Xc6 := X0.out.get 6 (.bool en) rfl
                have Xc7 := X0.out.get 7 (.int .i64 es) rfl
                have Xc8 := X0.out.get 8 (.int .i64 e0) rfl
                go_wp2_with fail
                clear Xc0 Xc1 Xc2 Xc3 Xc4 Xc5 Xc6 Xc7 Xc8
                refine (HW.out _).mono ?_
                rintro e w11 ⟨rfl, hb11⟩
                have X11 := Lib.hid (X0.out.below hb11)
                have B11 := Lib.hid (bel_trans B0.out hb11)
                clear X0 B0 hb11
                have Xc0 := X11.out.get 0 (.int .i64 ek) rfl
                have Xc1 := X11.out.get 1 (.int .i64 ef) rfl
                have Xc2 := X11.out.get 2 (.bool er) rfl
                have Xc3 := X11.out.get 3 (.bool ew) rfl
                have Xc4 := X11.out.get 4 (.bool ex) rfl
                have Xc5 := X11.out.get 5 (.bool ea) rfl
                have Xc6 := X11.out.get 6 (.bool en) rfl
                have Xc7 := X11.out.get 7 (.int .i64 es) rfl
                have Xc8 := X11.out.get 8 (.int .i64 e0) rfl
                go_wp2_with fail
                clear Xc0 Xc1 Xc2 Xc3 Xc4 Xc5 Xc6 Xc7 Xc8
                refine (HD.out _).mono ?_
                rintro e w12 ⟨rfl, hb12⟩
                have X12 := Lib.hid (X11.out.below hb12)
                have B12 := Lib.hid (bel_trans B11.out hb12)
                clear X11 B11 hb12
                have Xc0 := X12.out.get 0 (.int .i64 ek) rfl
                have Xc1 := X12.out.get 1 (.int .i64 ef) rfl
                have Xc2 := X12.out.get 2 (.bool er) rfl
                have Xc3 := X12.out.get 3 (.bool ew) rfl
                have Xc4 := X12.out.get 4 (.bool ex) rfl
                have Xc5 := X12.out.get 5 (.bool ea) rfl
                have Xc6 := X12.out.get 6 (.bool en) rfl
                have Xc7 := X12.out.get 7 (.int .i64 es) rfl
                have Xc8 := X12.out.get 8 (.int .i64 e0) rfl
                go_wp2_with fail
                clear Xc0 Xc1 Xc2 Xc3 Xc4 Xc5 Xc6 Xc7 Xc8
                refine (HR.out _).mono ?_
                rintro e w13 ⟨rfl, hb13⟩
                have X13 := Lib.hid (X12.out.below hb13)
                have B13 := Lib.hid (bel_trans B12.out hb13)
                clear X12 B12 hb13
                go_wp2_with (first | (go_at_call 18; refine (lnum_any _ _).mono ?_; rintro e w3 ⟨rfl, rfl⟩))
                refine (HO.out _).mono ?_
                rintro e w14 ⟨rfl, hb14⟩
                have X14 := Lib.hid (X13.out.below hb14)
                have B14 := Lib.hid (bel_trans B13.out hb14)
                clear X13 B13 hb14
                have Xa := Lib.hid (X14.out.alloc (.cells #[.int .i64 ek, .int .i64 ef, .bool er, .bool ew, .bool ex, .bool ea, .bool en, .int .i64 es, .int .i64 e0] 26))
                have Ba := Lib.hid (bel_alloc B14.out (.cells #[.int .i64 ek, .int .i64 ef, .bool er, .bool ew, .bool ex, .bool ea, .bool en, .int .i64 es, .int .i64 e0] 26))
                have hltx := X14.out.lt
                have hnx : w14.heap.size ≠ G := by omega
                have hny : G ≠ w14.heap.size := by omega
                clear X14 B14 hltx
                have Xc0 := Xa.out.get 0 (.int .i64 ek) rfl
                have Xc1 := Xa.out.get 1 (.int .i64 ef) rfl
                have Xc2 := Xa.out.get 2 (.bool er) rfl
                have Xc3 := Xa.out.get 3 (.bool ew) rfl
                have Xc4 := Xa.out.get 4 (.bool ex) rfl
                have Xc5 := Xa.out.get 5 (.bool ea) rfl
                have Xc6 := Xa.out.get 6 (.bool en) rfl
                have Xc7 := Xa.out.get 7 (.int .i64 es) rfl
                have Xc8 := Xa.out.get 8 (.int .i64 e0) rfl
                have Xz6 := Xa.out.free 6
                go_wp2_with (first | (go_at_call 18; refine (lnum_any _ _).mono ?_; rintro e w3 ⟨rfl, rfl⟩))
                clear Xc0 Xc1 Xc2 Xc3 Xc4 Xc5 Xc6 Xc7 Xc8 Xz6
                have X15 := Lib.hid (Xa.out.set 6 (.bool false) #[.int .i64 ek, .int .i64 ef, .bool er, .bool ew, .bool ex, .bool ea, .bool false, .int .i64 es, .int .i64 e0] rfl)
                have B15 := Lib.hid (Below.setCell Ba.out (p := ⟨G, 6, none⟩) (by first | assumption | (simp; done) | (simp; omega)) (.bool false))
                clear Xa Ba
                go_roundw
                case rel => exact ⟨j + 1, (Dsc.mk ek ef er ew ex ea false es e0), by omega, by go_num, B15.out, X15⟩
                case measure => simp [intOf]; omega
          · have HBe := Lib.hid hb
            clear hb X0
            go_wp2_with fail
            obtain ⟨wy, rfl⟩ : ∃ wy : World, wy = wr := ⟨_, rfl⟩
            go_loopw [16] (fun t wi => ∃ j : Int, 0 ≤ j ∧ j ≤ 66 ∧ t = .int .i64 j ∧ Below w.heap.size w wi) (fun t _ => (66 - intOf t).toNat)
            case atStart => exact ⟨0, by decide, by decide, rfl, HBe.out⟩
            case round =>
              obtain ⟨j, hj0, hj66, rfl, hb⟩ := hrel
              by_cases hj64 : j < 64
              · have HB := Lib.hid hb
                clear hb
                have HO := Lib.hid (fun W => of_any st lv (bitK qw j) W HPL.out)
                have HR := Lib.hid (fun W => rof_any st lv (bitK qw j) W HPL.out)
                have hx := bitK_eq qw j
                generalize ofD st lv (bitK qw j) = dd at *
                generalize bitK qw j = wk at *
                obtain ⟨xk, xf, xr, xw, xx, xa, xn, xs, x0⟩ := dd
                unfold dscV at HO HR
                simp only at HO HR
                go_upto_region 26 with fail
                go_cut [17, 18] (fun s17 s18 wx => ∃ g : Nat, s17 = .pointer (some ⟨g, 0, none⟩) ∧ s18 = .int .i64 0 ∧ Hid (Below w.heap.size w wx) ∧ Hid (BoxAt wx g #[.int .i64 xk, .int .i64 xf, .bool xr, .bool xw, .bool xx, .bool xa, .bool xn, .int .i64 xs, .int .i64 x0] 26) ∧ Hid (w.heap.size ≤ g))
                case first =>
                  refine wp_region_held_drew (S := fun w' => Below w.heap.size w w') (by kernel_rfl) (Below.drew HB.out) (fun hS => ?_)
                  refine wpAnyH_take (i := 0) (oi := ⟨some 114, _, _, _, _, _⟩) (v := ?_) rfl (by kernel_rfl) (by kernel_rfl) (by kernel_rfl) (fun _ _ _ h => h) (Or.inl ⟨by rfl, ?_⟩) hS ?_
                  rotate_left
                  · (intro w' hSw; have s12 : w'.cell? ⟨b, off + k * 13 + 12, none⟩ = some (.int .u64 (u qw)) := (HQ.out.below hSw).c 12 (by decide); clear hSw; go_simp; try with_reducible rfl)
                  simp only [Act.put, List.setIfInBounds_toArray, List.set_cons_zero, List.set_cons_succ]
                  refine wpAnyH_take (i := 1) (oi := ⟨some 115, _, _, _, _, _⟩) (v := ?_) rfl (by kernel_rfl) (by kernel_rfl) (by kernel_rfl) (fun _ _ _ h => h) (Or.inl ⟨by rfl, ?_⟩) hS ?_
                  rotate_left
                  · (intro w' hSw; have s12 : w'.cell? ⟨b, off + k * 13 + 12, none⟩ = some (.int .u64 (u qw)) := (HQ.out.below hSw).c 12 (by decide); clear hSw; go_simp; try with_reducible rfl)
                  simp only [Act.put, List.setIfInBounds_toArray, List.set_cons_zero, List.set_cons_succ]
                  refine wpAnyH_take (i := 2) (oi := ⟨some 116, _, _, _, _, _⟩) (v := ?_) rfl (by kernel_rfl) (by kernel_rfl) (by kernel_rfl) (fun _ _ _ h => h) (Or.inl ⟨by rfl, ?_⟩) hS ?_
                  rotate_left
                  · (intro w' hSw; have s12 : w'.cell? ⟨b, off + k * 13 + 12, none⟩ = some (.int .u64 (u qw)) := (HQ.out.below hSw).c 12 (by decide); clear hSw; go_simp; try with_reducible rfl)
                  simp only [Act.put, List.setIfInBounds_toArray, List.set_cons_zero, List.set_cons_succ]
                  refine wpAnyH_take (i := 3) (oi := ⟨some 117, _, _, _, _, _⟩) (v := ?_) rfl (by kernel_rfl) (by kernel_rfl) (by kernel_rfl) (fun _ _ _ h => h) (Or.inl ⟨by rfl, ?_⟩) hS ?_
                  rotate_left
                  · (intro w' hSw; have s12 : w'.cell? ⟨b, off + k * 13 + 12, none⟩ = some (.int .u64 (u qw)) := (HQ.out.below hSw).c 12 (by decide); clear hSw; go_simp; try with_reducible rfl)
                  simp only [Act.put, List.setIfInBounds_toArray, List.set_cons_zero, List.set_cons_succ]
                  refine wpAnyH_take (i := 4) (oi := ⟨some 118, _, _, _, _, _⟩) (v := ?_) rfl (by kernel_rfl) (by kernel_rfl) (by kernel_rfl) (fun _ _ _ h => h) (Or.inl ⟨by rfl, ?_⟩) hS ?_
                  rotate_left
                  · (intro w' hSw; have s12 : w'.cell? ⟨b, off + k * 13 + 12, none⟩ = some (.int .u64 (u qw)) := (HQ.out.below hSw).c 12 (by decide); clear hSw; go_simp; try with_reducible rfl)
                  simp only [Act.put, List.setIfInBounds_toArray, List.set_cons_zero, List.set_cons_succ]
                  refine wpAnyH_take (i := 5) (oi := ⟨some 119, _, _, _, _, _⟩) (v := ?_) rfl (by kernel_rfl) (by kernel_rfl) (by kernel_rfl) (fun _ _ _ h => h) (Or.inl ⟨by rfl, ?_⟩) hS ?_
                  rotate_left
                  · (intro w' hSw; have s12 : w'.cell? ⟨b, off + k * 13 + 12, none⟩ = some (.int .u64 (u qw)) := (HQ.out.below hSw).c 12 (by decide); clear hSw; go_simp; try with_reducible rfl)
                  simp only [Act.put, List.setIfInBounds_toArray, List.set_cons_zero, List.set_cons_succ]
                  refine wpAnyH_take (i := 6) (oi := ⟨some 120, _, _, _, _, _⟩) (v := ?_) rfl (by kernel_rfl) (by kernel_rfl) (by kernel_rfl) (fun _ _ _ h => h) (Or.inl ⟨by rfl, ?_⟩) hS ?_
                  rotate_left
                  · (intro w' hSw; have s12 : w'.cell? ⟨b, off + k * 13 + 12, none⟩ = some (.int .u64 (u qw)) := (HQ.out.below hSw).c 12 (by decide); clear hSw; go_simp; try with_reducible rfl)
                  simp only [Act.put, List.setIfInBounds_toArray, List.set_cons_zero, List.set_cons_succ]
                  refine wpAnyH_take (i := 7) (oi := ⟨some 121, _, _, _, _, _⟩) (v := ?_) rfl (by kernel_rfl) (by kernel_rfl) (by kernel_rfl) (fun _ _ _ h => h) (Or.inl ⟨by rfl, ?_⟩) hS ?_
                  rotate_left
                  · (intro w' hSw; have s12 : w'.cell? ⟨b, off + k * 13 + 12, none⟩ = some (.int .u64 (u qw)) := (HQ.out.below hSw).c 12 (by decide); clear hSw; go_simp; try with_reducible rfl)
                  simp only [Act.put, List.setIfInBounds_toArray, List.set_cons_zero, List.set_cons_succ]
                  refine wpAnyH_take (i := 8) (oi := ⟨some 122, _, _, _, _, _⟩) (v := ?_) rfl (by kernel_rfl) (by kernel_rfl) (by kernel_rfl) (fun _ _ _ h => h) (Or.inl ⟨by rfl, ?_⟩) hS ?_
                  rotate_left
                  · (intro w' hSw; have s12 : w'.cell? ⟨b, off + k * 13 + 12, none⟩ = some (.int .u64 (u qw)) := (HQ.out.below hSw).c 12 (by decide); clear hSw; go_simp; try with_reducible rfl)
                  simp only [Act.put, List.setIfInBounds_toArray, List.set_cons_zero, List.set_cons_succ]
                  refine wpAnyH_take (i := 9) (oi := ⟨some 123, _, _, _, _, _⟩) (v := ?_) rfl (by kernel_rfl) (by kernel_rfl) (by kernel_rfl) (fun _ _ _ h => h) (Or.inl ⟨by rfl, ?_⟩) hS ?_
                  rotate_left
                  · (intro w' hSw; have s12 : w'.cell? ⟨b, off + k * 13 + 12, none⟩ = some (.int .u64 (u qw)) := (HQ.out.below hSw).c 12 (by decide); clear hSw; go_simp; try with_reducible rfl)
                  simp only [Act.put, List.setIfInBounds_toArray, List.set_cons_zero, List.set_cons_succ]
                  refine wpAnyH_ready (rs := [10, 14]) (by kernel_rfl) (by simp) ?_
                  refine AllReadyH.cons (o := ⟨some 124, _, _, _, _, _⟩) rfl (fun K hK => ?_) (AllReadyH.cons (o := ⟨some 17, _, _, _, _, _⟩) rfl (fun K hK => ?_) AllReadyH.nil)
                  · go_simp
                    refine (HO.out _).mono ?_
                    rintro e w1 ⟨rfl, hb1⟩
                    have HW1 := Lib.hid (bel_trans hS hb1)
                    clear hb1
                    refine hK.out _ _ ?_ (fun hS' => ?_)
                    · (exact HW1.out)
                    clear hK K hS
                    have hS := hS'
                    clear hS'
                    try simp only [Act.put, List.setIfInBounds_toArray, List.set_cons_zero, List.set_cons_succ]
                    refine wpAnyH_take (i := 11) (oi := ⟨some 113, _, _, _, _, _⟩) (v := ?_) rfl (by kernel_rfl) (by kernel_rfl) (by kernel_rfl) (fun _ _ _ h => h) (Or.inl ⟨by rfl, ?_⟩) hS ?_
                    rotate_left
                    · (intro w' hSw; clear hSw; go_simp; try with_reducible rfl)
                    simp only [Act.put, List.setIfInBounds_toArray, List.set_cons_zero, List.set_cons_succ]
                    refine wpAnyH_take (i := 12) (oi := ⟨some 125, _, _, _, _, _⟩) (v := ?_) rfl (by kernel_rfl) (by kernel_rfl) (by kernel_rfl) (fun _ _ _ h => h) (Or.inl ⟨by rfl, ?_⟩) hS ?_
                    rotate_left
                    · (intro w' hSw; clear hSw; go_simp; try with_reducible rfl)
                    simp only [Act.put, List.setIfInBounds_toArray, List.set_cons_zero, List.set_cons_succ]
                    refine wpAnyH_take (i := 13) (oi := ⟨some 126, _, _, _, _, _⟩) (v := ?_) rfl (by kernel_rfl) (by kernel_rfl) (by kernel_rfl) (fun _ _ _ h => h) (Or.inl ⟨by rfl, ?_⟩) hS ?_
                    rotate_left
                    · (intro w' hSw; clear hSw; go_simp; try with_reducible rfl)
                    simp only [Act.put, List.setIfInBounds_toArray, List.set_cons_zero, List.set_cons_succ]
                    refine wpAnyH_ready (rs := [14]) (by kernel_rfl) (by simp) ?_
                    refine AllReadyH.cons (o := ⟨some 17, _, _, _, _, _⟩) rfl (fun K hK => ?_) AllReadyH.nil
                    go_simp
                    refine hK.out _ _ ?_ (fun hS' => ?_)
                    · (exact bel_alloc HW1.out _)
                    clear hK K hS
                    have hS := hS'
                    clear hS'
                    try simp only [Act.put, List.setIfInBounds_toArray, List.set_cons_zero, List.set_cons_succ]
                    refine wpAnyH_ready (rs := [15]) (by kernel_rfl) (by simp) ?_
                    refine AllReadyH.cons (o := ⟨none, _, _, _, _, _⟩) rfl (fun K hK => ?_) AllReadyH.nil
                    go_simp
                    refine hK.out _ _ ?_ (fun hS' => ?_)
                    · (repeat' (first | with_reducible exact HW1.out | with_reducible refine bel_alloc ?_ _ | with_reducible refine Below.setCell ?_ (by first | exact HW1.out.size | (simp; omega)) _))
                    clear hK K hS
                    have hS := hS'
                    clear hS'
                    try simp only [Act.put, List.setIfInBounds_toArray, List.set_cons_zero, List.set_cons_succ]
                    refine wpAnyH_take (i := 16) (oi := ⟨some 18, _, _, _, _, _⟩) (v := ?_) rfl (by kernel_rfl) (by kernel_rfl) (by kernel_rfl) (fun _ _ _ h => h) (Or.inl ⟨by rfl, ?_⟩) hS ?_
                    rotate_left
                    · (intro w' hSw; clear hSw; go_simp; try with_reducible rfl)
                    simp only [Act.put, List.setIfInBounds_toArray, List.set_cons_zero, List.set_cons_succ]
                    refine wpAnyH_done (by kernel_rfl) ?_ _
                    go_wp2_with fail
                    go_meet
                    exact ⟨w1.heap.size, rfl, rfl, hS, BoxAt.new w1 #[.int .i64 xk, .int .i64 xf, .bool xr, .bool xw, .bool xx, .bool xa, .bool xn, .int .i64 xs, .int .i64 x0] 26, HW1.out.size⟩
                  · go_simp
                    have HZ0 := Lib.hid ((BoxAt.new wr #[.int .i64 0, .int .i64 0, .bool false, .bool false, .bool false, .bool false, .bool false, .int .i64 0, .int .i64 0] 26).drew)
                    have HWB := Lib.hid (Below.drew (bel_alloc HB.out (.cells #[.int .i64 0, .int .i64 0, .bool false, .bool false, .bool false, .bool false, .bool false, .int .i64 0, .int .i64 0] 26)))
                    refine hK.out _ _ ?_ (fun hS' => ?_)
                    · (exact HWB.out)
                    clear hK K hS
                    have hS := hS'
                    clear hS'
                    try simp only [Act.put, List.setIfInBounds_toArray, List.set_cons_zero, List.set_cons_succ]
                    refine wpAnyH_ready (rs := [10]) (by kernel_rfl) (by simp) ?_
                    refine AllReadyH.cons (o := ⟨some 124, _, _, _, _, _⟩) rfl (fun K hK => ?_) AllReadyH.nil
                    go_simp
                    refine (HO.out _).mono ?_
                    rintro e w1 ⟨rfl, hb1⟩
                    have HW1 := Lib.hid (bel_trans HWB.out hb1)
                    have HZ1 := Lib.hid (HZ0.out.below hb1)
                    clear hb1
                    refine hK.out _ _ ?_ (fun hS' => ?_)
                    · (exact HW1.out)
                    clear hK K hS
                    have hS := hS'
                    clear hS'
                    try simp only [Act.put, List.setIfInBounds_toArray, List.set_cons_zero, List.set_cons_succ]
                    refine wpAnyH_take (i := 11) (oi := ⟨some 113, _, _, _, _, _⟩) (v := ?_) rfl (by kernel_rfl) (by kernel_rfl) (by kernel_rfl) (fun _ _ _ h => h) (Or.inl ⟨by rfl, ?_⟩) hS ?_
                    rotate_left
                    · (intro w' hSw; clear hSw; go_simp; try with_reducible rfl)
                    simp only [Act.put, List.setIfInBounds_toArray, List.set_cons_zero, List.set_cons_succ]
                    refine wpAnyH_take (i := 12) (oi := ⟨some 125, _, _, _, _, _⟩) (v := ?_) rfl (by kernel_rfl) (by kernel_rfl) (by kernel_rfl) (fun _ _ _ h => h) (Or.inl ⟨by rfl, ?_⟩) hS ?_
                    rotate_left
                    · (intro w' hSw; clear hSw; go_simp; try with_reducible rfl)
                    simp only [Act.put, List.setIfInBounds_toArray, List.set_cons_zero, List.set_cons_succ]
                    refine wpAnyH_take (i := 13) (oi := ⟨some 126, _, _, _, _, _⟩) (v := ?_) rfl (by kernel_rfl) (by kernel_rfl) (by kernel_rfl) (fun _ _ _ h => h) (Or.inl ⟨by rfl, ?_⟩) hS ?_
                    rotate_left
                    · (intro w' hSw; clear hSw; go_simp; try with_reducible rfl)
                    simp only [Act.put, List.setIfInBounds_toArray, List.set_cons_zero, List.set_cons_succ]
                    have z0 := HZ1.out.get 0 (.int .i64 0) rfl
                    have z1 := HZ1.out.get 1 (.int .i64 0) rfl
                    have z2 := HZ1.out.get 2 (.bool false) rfl
                    have z3 := HZ1.out.get 3 (.bool false) rfl
                    have z4 := HZ1.out.get 4 (.bool false) rfl
                    have z5 := HZ1.out.get 5 (.bool false) rfl
                    have z6 := HZ1.out.get 6 (.bool false) rfl
                    have z7 := HZ1.out.get 7 (.int .i64 0) rfl
                    have z8 := HZ1.out.get 8 (.int .i64 0) rfl
                    have y0 := HZ1.out.free 0
                    have y1 := HZ1.out.free 1
                    have y2 := HZ1.out.free 2
                    have y3 := HZ1.out.free 3
                    have y4 := HZ1.out.free 4
                    have y5 := HZ1.out.free 5
                    have y6 := HZ1.out.free 6
                    have y7 := HZ1.out.free 7
                    have y8 := HZ1.out.free 8
                    refine wpAnyH_ready (rs := [15]) (by kernel_rfl) (by simp) ?_
                    refine AllReadyH.cons (o := ⟨none, _, _, _, _, _⟩) rfl (fun K hK => ?_) AllReadyH.nil
                    go_simp
                    refine hK.out _ _ ?_ (fun hS' => ?_)
                    · (repeat' (first | with_reducible exact HW1.out | with_reducible refine Below.setCell ?_ (by exact HB.out.size) _))
                    clear hK K hS
                    have hS := hS'
                    clear hS'
                    try simp only [Act.put, List.setIfInBounds_toArray, List.set_cons_zero, List.set_cons_succ]
                    clear z0 y0 z1 y1 z2 y2 z3 y3 z4 y4 z5 y5 z6 y6 z7 y7 z8 y8
                    refine wpAnyH_take (i := 16) (oi := ⟨some 18, _, _, _, _, _⟩) (v := ?_) rfl (by kernel_rfl) (by kernel_rfl) (by kernel_rfl) (fun _ _ _ h => h) (Or.inl ⟨by rfl, ?_⟩) hS ?_
                    rotate_left
                    · (intro w' hSw; clear hSw; go_simp; try with_reducible rfl)
                    simp only [Act.put, List.setIfInBounds_toArray, List.set_cons_zero, List.set_cons_succ]
                    refine wpAnyH_done (by kernel_rfl) ?_ _
                    go_wp2_with fail
                    go_meet
                    exact ⟨wr.heap.size, rfl, rfl, hS, (((((((((HZ1.out.set 0 (.int .i64 xk) #[.int .i64 xk, .int .i64 0, .bool false, .bool false, .bool false, .bool false, .bool false, .int .i64 0, .int .i64 0] rfl).set 1 (.int .i64 xf) #[.int .i64 xk, .int .i64 xf, .bool false, .bool false, .bool false, .bool false, .bool false, .int .i64 0, .int .i64 0] rfl).set 2 (.bool xr) #[.int .i64 xk, .int .i64 xf, .bool xr, .bool false, .bool false, .bool false, .bool false, .int .i64 0, .int .i64 0] rfl).set 3 (.bool xw) #[.int .i64 xk, .int .i64 xf, .bool xr, .bool xw, .bool false, .bool false, .bool false, .int .i64 0, .int .i64 0] rfl).set 4 (.bool xx) #[.int .i64 xk, .int .i64 xf, .bool xr, .bool xw, .bool xx, .bool false, .bool false, .int .i64 0, .int .i64 0] rfl).set 5 (.bool xa) #[.int .i64 xk, .int .i64 xf, .bool xr, .bool xw, .bool xx, .bool xa, .bool false, .int .i64 0, .int .i64 0] rfl).set 6 (.bool xn) #[.int .i64 xk, .int .i64 xf, .bool xr, .bool xw, .bool xx, .bool xa, .bool xn, .int .i64 0, .int .i64 0] rfl).set 7 (.int .i64 xs) #[.int .i64 xk, .int .i64 xf, .bool xr, .bool xw, .bool xx, .bool xa, .bool xn, .int .i64 xs, .int .i64 0] rfl).set 8 (.int .i64 x0) #[.int .i64 xk, .int .i64 xf, .bool xr, .bool xw, .bool xx, .bool xa, .bool xn, .int .i64 xs, .int .i64 x0] rfl), HB.out.size⟩
                case rest =>
                  obtain ⟨g, rfl, rfl, HB2, HX2, hg⟩ := hcut
                  have ez := eqD_self (Dsc.mk xk xf xr xw xx xa xn xs x0)
                  go_wp2_with fail
                  refine wp_region_held_drew (S := fun w' => Below w.heap.size w w' ∧ BoxAt w' g #[.int .i64 xk, .int .i64 xf, .bool xr, .bool xw, .bool xx, .bool xa, .bool xn, .int .i64 xs, .int .i64 x0] 26) (by kernel_rfl) ⟨Below.drew HB2.out, HX2.out.drew⟩ (fun hS => ?_)
                  refine wpAnyH_take (i := 0) (oi := ⟨some 127, _, _, _, _, _⟩) (v := ?_) rfl (by kernel_rfl) (by kernel_rfl) (by kernel_rfl) (fun _ _ _ h => h) (Or.inl ⟨by rfl, ?_⟩) hS ?_
                  rotate_left
                  · (intro w' hSw; have s12 : w'.cell? ⟨b, off + k * 13 + 12, none⟩ = some (.int .u64 (u qw)) := (HQ.out.below hSw.1).c 12 (by decide); have s0 := hSw.2.get 0 (.int .i64 xk) rfl; have s1 := hSw.2.get 1 (.int .i64 xf) rfl; have s2 := hSw.2.get 2 (.bool xr) rfl; have s3 := hSw.2.get 3 (.bool xw) rfl; have s4 := hSw.2.get 4 (.bool xx) rfl; have s5 := hSw.2.get 5 (.bool xa) rfl; have s6 := hSw.2.get 6 (.bool xn) rfl; have s7 := hSw.2.get 7 (.int .i64 xs) rfl; have s8 := hSw.2.get 8 (.int .i64 x0) rfl; clear hSw; go_simp; try with_reducible rfl)
                  simp only [Act.put, List.setIfInBounds_toArray, List.set_cons_zero, List.set_cons_succ]
                  refine wpAnyH_ready (rs := [1]) (by kernel_rfl) (by simp) ?_
                  refine AllReadyH.cons (o := ⟨some 128, _, _, _, _, _⟩) rfl (fun K hK => ?_) AllReadyH.nil
                  go_simp
                  refine (lnum_any _ _).mono ?_
                  rintro e w3 ⟨rfl, rfl⟩
                  refine hK.out _ _ ?_ (fun hS' => ?_)
                  · (exact hS)
                  clear hK K hS
                  have hS := hS'
                  clear hS'
                  try simp only [Act.put, List.setIfInBounds_toArray, List.set_cons_zero, List.set_cons_succ]
                  refine wpAnyH_take (i := 2) (oi := ⟨some 129, _, _, _, _, _⟩) (v := ?_) rfl (by kernel_rfl) (by kernel_rfl) (by kernel_rfl) (fun _ _ _ h => h) (Or.inl ⟨by rfl, ?_⟩) hS ?_
                  rotate_left
                  · (intro w' hSw; have s12 : w'.cell? ⟨b, off + k * 13 + 12, none⟩ = some (.int .u64 (u qw)) := (HQ.out.below hSw.1).c 12 (by decide); have s0 := hSw.2.get 0 (.int .i64 xk) rfl; have s1 := hSw.2.get 1 (.int .i64 xf) rfl; have s2 := hSw.2.get 2 (.bool xr) rfl; have s3 := hSw.2.get 3 (.bool xw) rfl; have s4 := hSw.2.get 4 (.bool xx) rfl; have s5 := hSw.2.get 5 (.bool xa) rfl; have s6 := hSw.2.get 6 (.bool xn) rfl; have s7 := hSw.2.get 7 (.int .i64 xs) rfl; have s8 := hSw.2.get 8 (.int .i64 x0) rfl; clear hSw; go_simp; try with_reducible rfl)
                  simp only [Act.put, List.setIfInBounds_toArray, List.set_cons_zero, List.set_cons_succ]
                  refine wpAnyH_take (i := 3) (oi := ⟨some 130, _, _, _, _, _⟩) (v := ?_) rfl (by kernel_rfl) (by kernel_rfl) (by kernel_rfl) (fun _ _ _ h => h) (Or.inl ⟨by rfl, ?_⟩) hS ?_
                  rotate_left
                  · (intro w' hSw; have s12 : w'.cell? ⟨b, off + k * 13 + 12, none⟩ = some (.int .u64 (u qw)) := (HQ.out.below hSw.1).c 12 (by decide); have s0 := hSw.2.get 0 (.int .i64 xk) rfl; have s1 := hSw.2.get 1 (.int .i64 xf) rfl; have s2 := hSw.2.get 2 (.bool xr) rfl; have s3 := hSw.2.get 3 (.bool xw) rfl; have s4 := hSw.2.get 4 (.bool xx) rfl; have s5 := hSw.2.get 5 (.bool xa) rfl; have s6 := hSw.2.get 6 (.bool xn) rfl; have s7 := hSw.2.get 7 (.int .i64 xs) rfl; have s8 := hSw.2.get 8 (.int .i64 x0) rfl; clear hSw; go_simp; try with_reducible rfl)
                  simp only [Act.put, List.setIfInBounds_toArray, List.set_cons_zero, List.set_cons_succ]
                  refine wpAnyH_take (i := 4) (oi := ⟨some 131, _, _, _, _, _⟩) (v := ?_) rfl (by kernel_rfl) (by kernel_rfl) (by kernel_rfl) (fun _ _ _ h => h) (Or.inl ⟨by rfl, ?_⟩) hS ?_
                  rotate_left
                  · (intro w' hSw; have s12 : w'.cell? ⟨b, off + k * 13 + 12, none⟩ = some (.int .u64 (u qw)) := (HQ.out.below hSw.1).c 12 (by decide); have s0 := hSw.2.get 0 (.int .i64 xk) rfl; have s1 := hSw.2.get 1 (.int .i64 xf) rfl; have s2 := hSw.2.get 2 (.bool xr) rfl; have s3 := hSw.2.get 3 (.bool xw) rfl; have s4 := hSw.2.get 4 (.bool xx) rfl; have s5 := hSw.2.get 5 (.bool xa) rfl; have s6 := hSw.2.get 6 (.bool xn) rfl; have s7 := hSw.2.get 7 (.int .i64 xs) rfl; have s8 := hSw.2.get 8 (.int .i64 x0) rfl; clear hSw; go_simp; try with_reducible rfl)
                  simp only [Act.put, List.setIfInBounds_toArray, List.set_cons_zero, List.set_cons_succ]
                  refine wpAnyH_take (i := 5) (oi := ⟨some 132, _, _, _, _, _⟩) (v := ?_) rfl (by kernel_rfl) (by kernel_rfl) (by kernel_rfl) (fun _ _ _ h => h) (Or.inl ⟨by rfl, ?_⟩) hS ?_
                  rotate_left
                  · (intro w' hSw; have s12 : w'.cell? ⟨b, off + k * 13 + 12, none⟩ = some (.int .u64 (u qw)) := (HQ.out.below hSw.1).c 12 (by decide); have s0 := hSw.2.get 0 (.int .i64 xk) rfl; have s1 := hSw.2.get 1 (.int .i64 xf) rfl; have s2 := hSw.2.get 2 (.bool xr) rfl; have s3 := hSw.2.get 3 (.bool xw) rfl; have s4 := hSw.2.get 4 (.bool xx) rfl; have s5 := hSw.2.get 5 (.bool xa) rfl; have s6 := hSw.2.get 6 (.bool xn) rfl; have s7 := hSw.2.get 7 (.int .i64 xs) rfl; have s8 := hSw.2.get 8 (.int .i64 x0) rfl; clear hSw; go_simp; try with_reducible rfl)
                  simp only [Act.put, List.setIfInBounds_toArray, List.set_cons_zero, List.set_cons_succ]
                  refine wpAnyH_take (i := 6) (oi := ⟨some 133, _, _, _, _, _⟩) (v := ?_) rfl (by kernel_rfl) (by kernel_rfl) (by kernel_rfl) (fun _ _ _ h => h) (Or.inl ⟨by rfl, ?_⟩) hS ?_
                  rotate_left
                  · (intro w' hSw; have s12 : w'.cell? ⟨b, off + k * 13 + 12, none⟩ = some (.int .u64 (u qw)) := (HQ.out.below hSw.1).c 12 (by decide); have s0 := hSw.2.get 0 (.int .i64 xk) rfl; have s1 := hSw.2.get 1 (.int .i64 xf) rfl; have s2 := hSw.2.get 2 (.bool xr) rfl; have s3 := hSw.2.get 3 (.bool xw) rfl; have s4 := hSw.2.get 4 (.bool xx) rfl; have s5 := hSw.2.get 5 (.bool xa) rfl; have s6 := hSw.2.get 6 (.bool xn) rfl; have s7 := hSw.2.get 7 (.int .i64 xs) rfl; have s8 := hSw.2.get 8 (.int .i64 x0) rfl; clear hSw; go_simp; try with_reducible rfl)
                  simp only [Act.put, List.setIfInBounds_toArray, List.set_cons_zero, List.set_cons_succ]
                  refine wpAnyH_take (i := 7) (oi := ⟨some 134, _, _, _, _, _⟩) (v := ?_) rfl (by kernel_rfl) (by kernel_rfl) (by kernel_rfl) (fun _ _ _ h => h) (Or.inl ⟨by rfl, ?_⟩) hS ?_
                  rotate_left
                  · (intro w' hSw; have s12 : w'.cell? ⟨b, off + k * 13 + 12, none⟩ = some (.int .u64 (u qw)) := (HQ.out.below hSw.1).c 12 (by decide); have s0 := hSw.2.get 0 (.int .i64 xk) rfl; have s1 := hSw.2.get 1 (.int .i64 xf) rfl; have s2 := hSw.2.get 2 (.bool xr) rfl; have s3 := hSw.2.get 3 (.bool xw) rfl; have s4 := hSw.2.get 4 (.bool xx) rfl; have s5 := hSw.2.get 5 (.bool xa) rfl; have s6 := hSw.2.get 6 (.bool xn) rfl; have s7 := hSw.2.get 7 (.int .i64 xs) rfl; have s8 := hSw.2.get 8 (.int .i64 x0) rfl; clear hSw; go_simp; try with_reducible rfl)
                  simp only [Act.put, List.setIfInBounds_toArray, List.set_cons_zero, List.set_cons_succ]
                  refine wpAnyH_take (i := 8) (oi := ⟨some 135, _, _, _, _, _⟩) (v := ?_) rfl (by kernel_rfl) (by kernel_rfl) (by kernel_rfl) (fun _ _ _ h => h) (Or.inl ⟨by rfl, ?_⟩) hS ?_
                  rotate_left
                  · (intro w' hSw; have s12 : w'.cell? ⟨b, off + k * 13 + 12, none⟩ = some (.int .u64 (u qw)) := (HQ.out.below hSw.1).c 12 (by decide); have s0 := hSw.2.get 0 (.int .i64 xk) rfl; have s1 := hSw.2.get 1 (.int .i64 xf) rfl; have s2 := hSw.2.get 2 (.bool xr) rfl; have s3 := hSw.2.get 3 (.bool xw) rfl; have s4 := hSw.2.get 4 (.bool xx) rfl; have s5 := hSw.2.get 5 (.bool xa) rfl; have s6 := hSw.2.get 6 (.bool xn) rfl; have s7 := hSw.2.get 7 (.int .i64 xs) rfl; have s8 := hSw.2.get 8 (.int .i64 x0) rfl; clear hSw; go_simp; try with_reducible rfl)
                  simp only [Act.put, List.setIfInBounds_toArray, List.set_cons_zero, List.set_cons_succ]
                  refine wpAnyH_take (i := 9) (oi := ⟨some 136, _, _, _, _, _⟩) (v := ?_) rfl (by kernel_rfl) (by kernel_rfl) (by kernel_rfl) (fun _ _ _ h => h) (Or.inl ⟨by rfl, ?_⟩) hS ?_
                  rotate_left
                  · (intro w' hSw; have s12 : w'.cell? ⟨b, off + k * 13 + 12, none⟩ = some (.int .u64 (u qw)) := (HQ.out.below hSw.1).c 12 (by decide); have s0 := hSw.2.get 0 (.int .i64 xk) rfl; have s1 := hSw.2.get 1 (.int .i64 xf) rfl; have s2 := hSw.2.get 2 (.bool xr) rfl; have s3 := hSw.2.get 3 (.bool xw) rfl; have s4 := hSw.2.get 4 (.bool xx) rfl; have s5 := hSw.2.get 5 (.bool xa) rfl; have s6 := hSw.2.get 6 (.bool xn) rfl; have s7 := hSw.2.get 7 (.int .i64 xs) rfl; have s8 := hSw.2.get 8 (.int .i64 x0) rfl; clear hSw; go_simp; try with_reducible rfl)
                  simp only [Act.put, List.setIfInBounds_toArray, List.set_cons_zero, List.set_cons_succ]
                  refine wpAnyH_take (i := 10) (oi := ⟨some 137, _, _, _, _, _⟩) (v := ?_) rfl (by kernel_rfl) (by kernel_rfl) (by kernel_rfl) (fun _ _ _ h => h) (Or.inl ⟨by rfl, ?_⟩) hS ?_
                  rotate_left
                  · (intro w' hSw; have s12 : w'.cell? ⟨b, off + k * 13 + 12, none⟩ = some (.int .u64 (u qw)) := (HQ.out.below hSw.1).c 12 (by decide); have s0 := hSw.2.get 0 (.int .i64 xk) rfl; have s1 := hSw.2.get 1 (.int .i64 xf) rfl; have s2 := hSw.2.get 2 (.bool xr) rfl; have s3 := hSw.2.get 3 (.bool xw) rfl; have s4 := hSw.2.get 4 (.bool xx) rfl; have s5 := hSw.2.get 5 (.bool xa) rfl; have s6 := hSw.2.get 6 (.bool xn) rfl; have s7 := hSw.2.get 7 (.int .i64 xs) rfl; have s8 := hSw.2.get 8 (.int .i64 x0) rfl; clear hSw; go_simp; try with_reducible rfl)
                  simp only [Act.put, List.setIfInBounds_toArray, List.set_cons_zero, List.set_cons_succ]
                  refine wpAnyH_take (i := 11) (oi := ⟨some 138, _, _, _, _, _⟩) (v := ?_) rfl (by kernel_rfl) (by kernel_rfl) (by kernel_rfl) (fun _ _ _ h => h) (Or.inl ⟨by rfl, ?_⟩) hS ?_
                  rotate_left
                  · (intro w' hSw; have s12 : w'.cell? ⟨b, off + k * 13 + 12, none⟩ = some (.int .u64 (u qw)) := (HQ.out.below hSw.1).c 12 (by decide); have s0 := hSw.2.get 0 (.int .i64 xk) rfl; have s1 := hSw.2.get 1 (.int .i64 xf) rfl; have s2 := hSw.2.get 2 (.bool xr) rfl; have s3 := hSw.2.get 3 (.bool xw) rfl; have s4 := hSw.2.get 4 (.bool xx) rfl; have s5 := hSw.2.get 5 (.bool xa) rfl; have s6 := hSw.2.get 6 (.bool xn) rfl; have s7 := hSw.2.get 7 (.int .i64 xs) rfl; have s8 := hSw.2.get 8 (.int .i64 x0) rfl; clear hSw; go_simp; try with_reducible rfl)
                  simp only [Act.put, List.setIfInBounds_toArray, List.set_cons_zero, List.set_cons_succ]
                  refine wpAnyH_take (i := 12) (oi := ⟨some 139, _, _, _, _, _⟩) (v := ?_) rfl (by kernel_rfl) (by kernel_rfl) (by kernel_rfl) (fun _ _ _ h => h) (Or.inl ⟨by rfl, ?_⟩) hS ?_
                  rotate_left
                  · (intro w' hSw; have s12 : w'.cell? ⟨b, off + k * 13 + 12, none⟩ = some (.int .u64 (u qw)) := (HQ.out.below hSw.1).c 12 (by decide); have s0 := hSw.2.get 0 (.int .i64 xk) rfl; have s1 := hSw.2.get 1 (.int .i64 xf) rfl; have s2 := hSw.2.get 2 (.bool xr) rfl; have s3 := hSw.2.get 3 (.bool xw) rfl; have s4 := hSw.2.get 4 (.bool xx) rfl; have s5 := hSw.2.get 5 (.bool xa) rfl; have s6 := hSw.2.get 6 (.bool xn) rfl; have s7 := hSw.2.get 7 (.int .i64 xs) rfl; have s8 := hSw.2.get 8 (.int .i64 x0) rfl; clear hSw; go_simp; try with_reducible rfl)
                  simp only [Act.put, List.setIfInBounds_toArray, List.set_cons_zero, List.set_cons_succ]
                  refine wpAnyH_take (i := 13) (oi := ⟨some 140, _, _, _, _, _⟩) (v := ?_) rfl (by kernel_rfl) (by kernel_rfl) (by kernel_rfl) (fun _ _ _ h => h) (Or.inl ⟨by rfl, ?_⟩) hS ?_
                  rotate_left
                  · (intro w' hSw; have s12 : w'.cell? ⟨b, off + k * 13 + 12, none⟩ = some (.int .u64 (u qw)) := (HQ.out.below hSw.1).c 12 (by decide); have s0 := hSw.2.get 0 (.int .i64 xk) rfl; have s1 := hSw.2.get 1 (.int .i64 xf) rfl; have s2 := hSw.2.get 2 (.bool xr) rfl; have s3 := hSw.2.get 3 (.bool xw) rfl; have s4 := hSw.2.get 4 (.bool xx) rfl; have s5 := hSw.2.get 5 (.bool xa) rfl; have s6 := hSw.2.get 6 (.bool xn) rfl; have s7 := hSw.2.get 7 (.int .i64 xs) rfl; have s8 := hSw.2.get 8 (.int .i64 x0) rfl; clear hSw; go_simp; try with_reducible rfl)
                  simp only [Act.put, List.setIfInBounds_toArray, List.set_cons_zero, List.set_cons_succ]
                  refine wpAnyH_take (i := 14) (oi := ⟨some 141, _, _, _, _, _⟩) (v := ?_) rfl (by kernel_rfl) (by kernel_rfl) (by kernel_rfl) (fun _ _ _ h => h) (Or.inl ⟨by rfl, ?_⟩) hS ?_
                  rotate_left
                  · (intro w' hSw; have s12 : w'.cell? ⟨b, off + k * 13 + 12, none⟩ = some (.int .u64 (u qw)) := (HQ.out.below hSw.1).c 12 (by decide); have s0 := hSw.2.get 0 (.int .i64 xk) rfl; have s1 := hSw.2.get 1 (.int .i64 xf) rfl; have s2 := hSw.2.get 2 (.bool xr) rfl; have s3 := hSw.2.get 3 (.bool xw) rfl; have s4 := hSw.2.get 4 (.bool xx) rfl; have s5 := hSw.2.get 5 (.bool xa) rfl; have s6 := hSw.2.get 6 (.bool xn) rfl; have s7 := hSw.2.get 7 (.int .i64 xs) rfl; have s8 := hSw.2.get 8 (.int .i64 x0) rfl; clear hSw; go_simp; try with_reducible rfl)
                  simp only [Act.put, List.setIfInBounds_toArray, List.set_cons_zero, List.set_cons_succ]
                  refine wpAnyH_ready (rs := [15]) (by kernel_rfl) (by simp) ?_
                  refine AllReadyH.cons (o := ⟨some 142, _, _, _, _, _⟩) rfl (fun K hK => ?_) AllReadyH.nil
                  go_simp
                  refine (HR.out _).mono ?_
                  rintro e w4 ⟨rfl, hb4⟩
                  refine hK.out _ _ ?_ (fun hS' => ?_)
                  · (exact ⟨bel_trans hS.1 hb4, hS.2.below hb4⟩)
                  clear hK K hS
                  have hS := hS'
                  clear hS'
                  try simp only [Act.put, List.setIfInBounds_toArray, List.set_cons_zero, List.set_cons_succ]
                  refine wpAnyH_take (i := 16) (oi := ⟨some 143, _, _, _, _, _⟩) (v := ?_) rfl (by kernel_rfl) (by kernel_rfl) (by kernel_rfl) (fun _ _ _ h => h) (Or.inl ⟨by rfl, ?_⟩) hS ?_
                  rotate_left
                  · (intro w' hSw; have s12 : w'.cell? ⟨b, off + k * 13 + 12, none⟩ = some (.int .u64 (u qw)) := (HQ.out.below hSw.1).c 12 (by decide); have s0 := hSw.2.get 0 (.int .i64 xk) rfl; have s1 := hSw.2.get 1 (.int .i64 xf) rfl; have s2 := hSw.2.get 2 (.bool xr) rfl; have s3 := hSw.2.get 3 (.bool xw) rfl; have s4 := hSw.2.get 4 (.bool xx) rfl; have s5 := hSw.2.get 5 (.bool xa) rfl; have s6 := hSw.2.get 6 (.bool xn) rfl; have s7 := hSw.2.get 7 (.int .i64 xs) rfl; have s8 := hSw.2.get 8 (.int .i64 x0) rfl; clear hSw; go_simp; try with_reducible rfl)
                  simp only [Act.put, List.setIfInBounds_toArray, List.set_cons_zero, List.set_cons_succ]
                  refine wpAnyH_take (i := 17) (oi := ⟨some 144, _, _, _, _, _⟩) (v := ?_) rfl (by kernel_rfl) (by kernel_rfl) (by kernel_rfl) (fun _ _ _ h => h) (Or.inl ⟨by rfl, ?_⟩) hS ?_
                  rotate_left
                  · (intro w' hSw; have s12 : w'.cell? ⟨b, off + k * 13 + 12, none⟩ = some (.int .u64 (u qw)) := (HQ.out.below hSw.1).c 12 (by decide); have s0 := hSw.2.get 0 (.int .i64 xk) rfl; have s1 := hSw.2.get 1 (.int .i64 xf) rfl; have s2 := hSw.2.get 2 (.bool xr) rfl; have s3 := hSw.2.get 3 (.bool xw) rfl; have s4 := hSw.2.get 4 (.bool xx) rfl; have s5 := hSw.2.get 5 (.bool xa) rfl; have s6 := hSw.2.get 6 (.bool xn) rfl; have s7 := hSw.2.get 7 (.int .i64 xs) rfl; have s8 := hSw.2.get 8 (.int .i64 x0) rfl; clear hSw; go_simp; try with_reducible rfl)
                  simp only [Act.put, List.setIfInBounds_toArray, List.set_cons_zero, List.set_cons_succ]
                  refine wpAnyH_done (by kernel_rfl) ?_ _
                  go_wp2_with fail
                  go_roundw
                  case rel => exact ⟨j + 3, by omega, by omega, by go_num, hS.1⟩
                  case measure => simp [intOf]; omega
              · go_wp2
                go_roundw
                case rel => exact ⟨k + 1, by omega, by go_num, hb⟩
                case measure => simp [intOf]; omega
    · by_cases hq : k < len
      · have hq' : ¬ (k < 12) := by omega
        go_wp2_with (go_at_call 26; refine (wakes_any _).mono ?_; rintro e w1 ⟨rfl, hb1⟩)
        go_ret
        exact ⟨rfl, bel_trans hb hb1⟩
      · go_wp2_with (go_at_call 26; refine (wakes_any _).mono ?_; rintro e w1 ⟨rfl, hb1⟩)
        go_ret
        exact ⟨rfl, bel_trans hb hb1⟩
end Go.Proofs.Ytpjnanplliinpaa
