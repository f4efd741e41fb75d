/- Stage 11: the walks of op and InsnWords. -/
import Derived.Test.YtgjmladfeelcnaaGe
import Derived.Test.YtgjmladfeelcnaaGd
import Derived.Test.YtgjmladfeelcnaaSt
import Derived.Deep.CutBlock
set_option linter.all false
namespace Go.Proofs.Ytgjmladfeelcnaa
open Go.ChangeShapes Go.WideShapes Go.ChangeAt Go.RowKit Go.Deep

theorem bits32_bd (op : BinOp) (a b : Int) (h : op = .and ∨ op = .or ∨ op = .xor) (a0 : 0 ≤ a) (a1 : a ≤ 4294967295) (b0 : 0 ≤ b) (b1 : b ≤ 4294967295) : 0 ≤ bits op .u32 a b ∧ bits op .u32 a b ≤ 4294967295 := by
  have ha : a.toNat < 2 ^ 32 := by omega
  have hb : b.toNat < 2 ^ 32 := by omega
  rcases h with rfl | rfl | rfl
  · rw [u32_and a b a0 (by omega) b0 (by omega)]
    have := Nat.and_lt_two_pow (n := 32) a.toNat hb
    omega
  · rw [u32_or a b a0 (by omega) b0 (by omega)]
    have := Nat.or_lt_two_pow (n := 32) ha hb
    omega
  · rw [u32_xor a b a0 (by omega) b0 (by omega)]
    have := Nat.xor_lt_two_pow (n := 32) ha hb
    omega
set_option maxRecDepth 100000 in
set_option maxHeartbeats 3200000 in
theorem op11_walk (b o l c : Nat) (w : World) (q : Nat → Q11) (hl : l ≤ 9223372036854775807) (hc : ∀ i, i < l → RowAt w b (o + i * 6) 6 (ask11V (q i)) ∧ (0 ≤ (q i).w ∧ (q i).w ≤ 4294967295)) (k : Int) (k1 : 1 ≤ k) (k2 : k ≤ 16) :
    Calls Try.prog 30 #[.slice (some ⟨b, o, none⟩) l c, .int .i64 k] w fun e w' => e = .returned (.bool true) ∧ Below w.heap.size w w' := by
  have HC := Lib.hid hc
  clear hc
  have htw : w.heap.size ≤ w.heap.size := Nat.le_refl _
  have B0 := Lib.hid (Below.refl w.heap.size w)
  go_enter Try.func30, Try.ntmps30
  go_wp2
  go_loopw [5] (fun i wr => ∃ (j : Nat), j ≤ l ∧ i = .int .i64 j ∧ Hid (Below w.heap.size w wr)) (fun i _ => l - (intOf i).toNat)
  case atStart => exact ⟨0, by omega, rfl, B0.out⟩
  case round =>
    clear B0
    obtain ⟨j, hkj, rfl, Br⟩ := hrel
    obtain ⟨mr, hmr⟩ : ∃ mr, mr = wr.heap.size := ⟨_, rfl⟩
    have hgwr : w.heap.size ≤ mr := by rw [hmr]; exact Br.out.size
    have hsr : mr ≤ wr.heap.size := by omega
    clear hmr
    by_cases hltj : j < l
    · have ik0j : (0 : Int) ≤ (j : Int) := by omega
      have ik1j : (j : Int) < (l : Int) := by omega
      have ikwj : IntKind.i64.wrap ((j : Int) + 1) = (j : Int) + 1 := IntWalk.i64_in _ (by omega)
      by_cases hlij : j < 20
      rotate_left
      · have dlj : decide ((j : Int) < 20) = false := decide_eq_false (by omega)
        go_wp2_with fail
        refine (wakes11_any _).mono ?_
        rintro e w1 ⟨rfl, hb1⟩
        have hz1 := hb1.size
        have B1 := Lib.hid ((bel_trans Br.out hb1))
        skip
        have hs1 : mr ≤ w1.heap.size := by omega
        clear Br hsr hb1 hz1
        go_wp2
        go_ret
        exact ⟨rfl, B1.out⟩
      have dlj : decide ((j : Int) < 20) = true := decide_eq_true (by omega)
      have HRq0 := HC.out j hltj
      have HRq := Lib.hid HRq0.1
      have hq0 := HRq0.2
      clear HRq0
      generalize q j = qj at *
      obtain ⟨⟨xo, xd, xn, xm, xi⟩, xw⟩ := qj
      unfold ask11V at HRq
      simp only at HRq hq0
      obtain ⟨hq0, hq1⟩ := hq0
      have hx1 := bits32_bd .and xw 134217727 (by simp) hq0 hq1 (by decide) (by decide)
      obtain ⟨a1, ha1⟩ : ∃ a1, bits .and .u32 xw 134217727 = a1 := ⟨_, rfl⟩
      rw [ha1] at hx1
      obtain ⟨k2, hk2⟩ : ∃ k2, k2 = k * 134217728 := ⟨_, rfl⟩
      have hkw : IntKind.u32.wrap k = k := by rw [IntKind.wrap_u32']; omega
      have hks : IntKind.u32.wrap (k * 134217728) = k2 := by rw [IntKind.wrap_u32', hk2]; omega
      have hx2 := bits32_bd .or a1 k2 (by simp) hx1.1 hx1.2 (by omega) (by omega)
      obtain ⟨v, hor⟩ : ∃ v, bits .or .u32 a1 k2 = v := ⟨_, rfl⟩
      rw [hor] at hx2
      obtain ⟨hv0, hv1⟩ := hx2
      clear hx1 hk2 hq0 hq1
      have HW := Lib.hid (fun W => inWordC ⟨k, xd, xn, xm, xi⟩ W)
      have HK := Lib.hid (fun W => inCheckC ⟨k, xd, xn, xm, xi⟩ W)
      have HR := Lib.hid (fun W => rinsn_any ⟨k, xd, xn, xm, xi⟩ W)
      have HV := Lib.hid (fun h W => rword_any k xd xn xm xi h W)
      have HO := Lib.hid (fun W => inOfC v hv0 hv1 W)
      have HP := Lib.hid (fun W => rof_any v hv0 hv1 W)
      generalize wordI ⟨k, xd, xn, xm, xi⟩ = wt at *
      generalize mayI ⟨k, xd, xn, xm, xi⟩ = mb at *
      generalize isI v = si at *
      generalize ofI v = tt at *
      obtain ⟨t0, t1, t2, t3, t4⟩ := tt
      unfold insV at HW HK HR HO HP
      simp only at HW HK HR HO HP
      have heq : eqIn ⟨t0, t1, t2, t3, t4⟩ ⟨t0, t1, t2, t3, t4⟩ = true := eqIn_self _
      clear hv0 hv1
      cases mb
      · rw [if_neg (by decide), if_neg (by decide)] at HW
        rw [if_neg (by decide)] at HK
        cases si
        · rw [if_neg (by decide)] at HO
          have yq := (HRq.out.below Br.out)
          have yq0 := yq.get0 (.int .i64 xo) (by decide) rfl
          have yq1 := yq.get 1 (.int .i64 xd) (by decide) rfl
          have yq2 := yq.get 2 (.int .i64 xn) (by decide) rfl
          have yq3 := yq.get 3 (.int .i64 xm) (by decide) rfl
          have yq4 := yq.get 4 (.int .i64 xi) (by decide) rfl
          clear yq
          go_upto_region 5 with fail
          clear yq0 yq1 yq2 yq3 yq4
          have X1 := Lib.hid ((BoxAt.newAt (wr) #[.int .i64 xo, .int .i64 xd, .int .i64 xn, .int .i64 xm, .int .i64 xi] 28 (wr.heap.size) (by first | omega | (simp; done) | (simp; omega))))
          have B1 := Lib.hid ((bel_alloc Br.out (.cells #[.int .i64 xo, .int .i64 xd, .int .i64 xn, .int .i64 xm, .int .i64 xi] 28)))
          obtain ⟨g1, hg1⟩ : ∃ g1, g1 = wr.heap.size := ⟨_, rfl⟩
          obtain ⟨W1, hW1⟩ : ∃ W1, W1 = (wr).alloc (.cells #[.int .i64 xo, .int .i64 xd, .int .i64 xn, .int .i64 xm, .int .i64 xi] 28) := ⟨_, rfl⟩
          have hs1 : g1 + 1 ≤ W1.heap.size := by rw [hW1, hg1]; simp
          rw [← hW1] at X1 B1 ⊢
          have hb1 : mr ≤ g1 := by omega
          rw [← hg1] at X1 ⊢
          clear hg1
          clear hW1 Br hsr
          have Xc0 := X1.out.get 0 (.int .i64 xo) rfl
          have Xz0 := X1.out.free 0
          go_upto_region 6 with fail
          clear Xc0 Xz0
          have X2 := Lib.hid ((X1.out.set 0 (.int .i64 k) #[.int .i64 k, .int .i64 xd, .int .i64 xn, .int .i64 xm, .int .i64 xi] rfl))
          have B2 := Lib.hid ((Below.setCell B1.out (p := ⟨g1, 0, none⟩) (show w.heap.size ≤ g1 by omega) (.int .i64 k)))
          obtain ⟨W2, hW2⟩ : ∃ W2, W2 = (W1).setCell ⟨g1, 0, none⟩ (.int .i64 k) := ⟨_, rfl⟩
          have hs2 : g1 + 1 ≤ W2.heap.size := by rw [hW2]; first | (simp [World.setCell]; omega) | (simp [World.setCell, World.setRow]; omega) | exact hs1
          rw [← hW2] at X2 B2 ⊢
          clear hW2 X1 B1 hs1
          have Xc0 := X2.out.get 0 (.int .i64 k) rfl
          have Xc1 := X2.out.get 1 (.int .i64 xd) rfl
          have Xc2 := X2.out.get 2 (.int .i64 xn) rfl
          have Xc3 := X2.out.get 3 (.int .i64 xm) rfl
          have Xc4 := X2.out.get 4 (.int .i64 xi) rfl
          go_wp2_with fail
          refine (HW.out _).mono ?_
          rintro e w3 ⟨rfl, hb3⟩
          have hz3 := hb3.size
          have X3 := Lib.hid (X2.out.below hb3)
          have B3 := Lib.hid ((bel_trans B2.out hb3))
          skip
          have hs3 : g1 + 1 ≤ w3.heap.size := by omega
          clear Xc0 Xc1 Xc2 Xc3 Xc4
          clear X2 B2 hs2 hb3 hz3
          have Xc0 := X3.out.get 0 (.int .i64 k) rfl
          have Xc1 := X3.out.get 1 (.int .i64 xd) rfl
          have Xc2 := X3.out.get 2 (.int .i64 xn) rfl
          have Xc3 := X3.out.get 3 (.int .i64 xm) rfl
          have Xc4 := X3.out.get 4 (.int .i64 xi) rfl
          go_wp2_with fail
          refine (HR.out _).mono ?_
          rintro e w4 ⟨rfl, hb4⟩
          have hz4 := hb4.size
          have X4 := Lib.hid (X3.out.below hb4)
          have B4 := Lib.hid ((bel_trans B3.out hb4))
          skip
          have hs4 : g1 + 1 ≤ w4.heap.size := by omega
          clear Xc0 Xc1 Xc2 Xc3 Xc4
          clear X3 B3 hs3 hb4 hz4
          have yq := (HRq.out.below B4.out)
          have yq5 := yq.get 5 (.int .u32 xw) (by decide) rfl
          clear yq
          go_wp2_with fail
          refine (HO.out _).mono ?_
          rintro e w5 ⟨rfl, hb5⟩
          have hz5 := hb5.size
          have X5 := Lib.hid (X4.out.below hb5)
          have B5 := Lib.hid ((bel_trans B4.out hb5))
          skip
          have hs5 : g1 + 1 ≤ w5.heap.size := by omega
          clear yq5
          clear X4 B4 hs4 hb5 hz5
          go_upto_region 11 with fail
          have X6 := Lib.hid ((X5.out.alloc (.cells #[.int .i64 t0, .int .i64 t1, .int .i64 t2, .int .i64 t3, .int .i64 t4] 28)))
          have Y6 := Lib.hid ((BoxAt.newAt (w5) #[.int .i64 t0, .int .i64 t1, .int .i64 t2, .int .i64 t3, .int .i64 t4] 28 (w5.heap.size) (by first | omega | (simp; done) | (simp; omega))))
          have B6 := Lib.hid ((bel_alloc B5.out (.cells #[.int .i64 t0, .int .i64 t1, .int .i64 t2, .int .i64 t3, .int .i64 t4] 28)))
          obtain ⟨g6, hg6⟩ : ∃ g6, g6 = w5.heap.size := ⟨_, rfl⟩
          obtain ⟨W6, hW6⟩ : ∃ W6, W6 = (w5).alloc (.cells #[.int .i64 t0, .int .i64 t1, .int .i64 t2, .int .i64 t3, .int .i64 t4] 28) := ⟨_, rfl⟩
          have hs6 : g6 + 1 ≤ W6.heap.size := by rw [hW6, hg6]; simp
          rw [← hW6] at X6 Y6 B6 ⊢
          have hb6 : g1 + 1 ≤ g6 := by omega
          rw [← hg6] at Y6 ⊢
          clear hg6
          clear hW6 X5 B5 hs5
          have yq := (HRq.out.below B6.out)
          have yq5 := yq.get 5 (.int .u32 xw) (by decide) rfl
          clear yq
          go_wp2_with fail
          refine (HP.out _).mono ?_
          rintro e w7 ⟨rfl, hb7⟩
          have hz7 := hb7.size
          have X7 := Lib.hid (X6.out.below hb7)
          have Y7 := Lib.hid (Y6.out.below hb7)
          have B7 := Lib.hid ((bel_trans B6.out hb7))
          skip
          have hs7 : g6 + 1 ≤ w7.heap.size := by omega
          clear yq5
          clear X6 Y6 B6 hs6 hb7 hz7
          go_upto_region 12 with fail
          have X8 := Lib.hid ((X7.out.alloc (.cells #[.int .i64 t0, .int .i64 t1, .int .i64 t2, .int .i64 t3, .int .i64 t4] 28)))
          have Y8 := Lib.hid ((Y7.out.alloc (.cells #[.int .i64 t0, .int .i64 t1, .int .i64 t2, .int .i64 t3, .int .i64 t4] 28)))
          have V8 := Lib.hid ((BoxAt.newAt (w7) #[.int .i64 t0, .int .i64 t1, .int .i64 t2, .int .i64 t3, .int .i64 t4] 28 (w7.heap.size) (by first | omega | (simp; done) | (simp; omega))))
          have B8 := Lib.hid ((bel_alloc B7.out (.cells #[.int .i64 t0, .int .i64 t1, .int .i64 t2, .int .i64 t3, .int .i64 t4] 28)))
          obtain ⟨g8, hg8⟩ : ∃ g8, g8 = w7.heap.size := ⟨_, rfl⟩
          obtain ⟨W8, hW8⟩ : ∃ W8, W8 = (w7).alloc (.cells #[.int .i64 t0, .int .i64 t1, .int .i64 t2, .int .i64 t3, .int .i64 t4] 28) := ⟨_, rfl⟩
          have hs8 : g8 + 1 ≤ W8.heap.size := by rw [hW8, hg8]; simp
          rw [← hW8] at X8 Y8 V8 B8 ⊢
          have hb8 : g6 + 1 ≤ g8 := by omega
          rw [← hg8] at V8 ⊢
          clear hg8
          clear hW8 X7 Y7 B7 hs7
          have Xc0 := X8.out.get 0 (.int .i64 k) rfl
          have Xc1 := X8.out.get 1 (.int .i64 xd) rfl
          have Xc2 := X8.out.get 2 (.int .i64 xn) rfl
          have Xc3 := X8.out.get 3 (.int .i64 xm) rfl
          have Xc4 := X8.out.get 4 (.int .i64 xi) rfl
          go_wp2_with fail
          refine (HK.out _).mono ?_
          rintro e w9 ⟨rfl, hb9⟩
          have hz9 := hb9.size
          have X9 := Lib.hid (X8.out.below hb9)
          have Y9 := Lib.hid (Y8.out.below hb9)
          have V9 := Lib.hid (V8.out.below hb9)
          have B9 := Lib.hid ((bel_trans B8.out hb9))
          skip
          have hs9 : g8 + 1 ≤ w9.heap.size := by omega
          clear Xc0 Xc1 Xc2 Xc3 Xc4
          clear X8 Y8 V8 B8 hs8 hb9 hz9
          go_wp2_with fail
          refine (lnum11_any _ _).mono ?_
          rintro e w10 ⟨rfl, rfl⟩
          go_wp2_with fail
          refine (lnum11_any _ _).mono ?_
          rintro e w11 ⟨rfl, rfl⟩
          go_wp2_with fail
          refine (lnum11_any _ _).mono ?_
          rintro e w12 ⟨rfl, rfl⟩
          have Yc0 := Y9.out.get 0 (.int .i64 t0) rfl
          have Yc1 := Y9.out.get 1 (.int .i64 t1) rfl
          have Yc2 := Y9.out.get 2 (.int .i64 t2) rfl
          have Yc3 := Y9.out.get 3 (.int .i64 t3) rfl
          have Yc4 := Y9.out.get 4 (.int .i64 t4) rfl
          have Vc0 := V9.out.get 0 (.int .i64 t0) rfl
          have Vc1 := V9.out.get 1 (.int .i64 t1) rfl
          have Vc2 := V9.out.get 2 (.int .i64 t2) rfl
          have Vc3 := V9.out.get 3 (.int .i64 t3) rfl
          have Vc4 := V9.out.get 4 (.int .i64 t4) rfl
          go_wp2
          go_roundw
          case rel => exact ⟨j + 1, by omega, by go_num, B9.out⟩
          case measure => simp [intOf] <;> omega
        rw [if_pos rfl] at HO
        have yq := (HRq.out.below Br.out)
        have yq0 := yq.get0 (.int .i64 xo) (by decide) rfl
        have yq1 := yq.get 1 (.int .i64 xd) (by decide) rfl
        have yq2 := yq.get 2 (.int .i64 xn) (by decide) rfl
        have yq3 := yq.get 3 (.int .i64 xm) (by decide) rfl
        have yq4 := yq.get 4 (.int .i64 xi) (by decide) rfl
        clear yq
        go_upto_region 5 with fail
        clear yq0 yq1 yq2 yq3 yq4
        have X1 := Lib.hid ((BoxAt.newAt (wr) #[.int .i64 xo, .int .i64 xd, .int .i64 xn, .int .i64 xm, .int .i64 xi] 28 (wr.heap.size) (by first | omega | (simp; done) | (simp; omega))))
        have B1 := Lib.hid ((bel_alloc Br.out (.cells #[.int .i64 xo, .int .i64 xd, .int .i64 xn, .int .i64 xm, .int .i64 xi] 28)))
        obtain ⟨g1, hg1⟩ : ∃ g1, g1 = wr.heap.size := ⟨_, rfl⟩
        obtain ⟨W1, hW1⟩ : ∃ W1, W1 = (wr).alloc (.cells #[.int .i64 xo, .int .i64 xd, .int .i64 xn, .int .i64 xm, .int .i64 xi] 28) := ⟨_, rfl⟩
        have hs1 : g1 + 1 ≤ W1.heap.size := by rw [hW1, hg1]; simp
        rw [← hW1] at X1 B1 ⊢
        have hb1 : mr ≤ g1 := by omega
        rw [← hg1] at X1 ⊢
        clear hg1
        clear hW1 Br hsr
        have Xc0 := X1.out.get 0 (.int .i64 xo) rfl
        have Xz0 := X1.out.free 0
        go_upto_region 6 with fail
        clear Xc0 Xz0
        have X2 := Lib.hid ((X1.out.set 0 (.int .i64 k) #[.int .i64 k, .int .i64 xd, .int .i64 xn, .int .i64 xm, .int .i64 xi] rfl))
        have B2 := Lib.hid ((Below.setCell B1.out (p := ⟨g1, 0, none⟩) (show w.heap.size ≤ g1 by omega) (.int .i64 k)))
        obtain ⟨W2, hW2⟩ : ∃ W2, W2 = (W1).setCell ⟨g1, 0, none⟩ (.int .i64 k) := ⟨_, rfl⟩
        have hs2 : g1 + 1 ≤ W2.heap.size := by rw [hW2]; first | (simp [World.setCell]; omega) | (simp [World.setCell, World.setRow]; omega) | exact hs1
        rw [← hW2] at X2 B2 ⊢
        clear hW2 X1 B1 hs1
        have Xc0 := X2.out.get 0 (.int .i64 k) rfl
        have Xc1 := X2.out.get 1 (.int .i64 xd) rfl
        have Xc2 := X2.out.get 2 (.int .i64 xn) rfl
        have Xc3 := X2.out.get 3 (.int .i64 xm) rfl
        have Xc4 := X2.out.get 4 (.int .i64 xi) rfl
        go_wp2_with fail
        refine (HW.out _).mono ?_
        rintro e w3 ⟨rfl, hb3⟩
        have hz3 := hb3.size
        have X3 := Lib.hid (X2.out.below hb3)
        have B3 := Lib.hid ((bel_trans B2.out hb3))
        skip
        have hs3 : g1 + 1 ≤ w3.heap.size := by omega
        clear Xc0 Xc1 Xc2 Xc3 Xc4
        clear X2 B2 hs2 hb3 hz3
        have Xc0 := X3.out.get 0 (.int .i64 k) rfl
        have Xc1 := X3.out.get 1 (.int .i64 xd) rfl
        have Xc2 := X3.out.get 2 (.int .i64 xn) rfl
        have Xc3 := X3.out.get 3 (.int .i64 xm) rfl
        have Xc4 := X3.out.get 4 (.int .i64 xi) rfl
        go_wp2_with fail
        refine (HR.out _).mono ?_
        rintro e w4 ⟨rfl, hb4⟩
        have hz4 := hb4.size
        have X4 := Lib.hid (X3.out.below hb4)
        have B4 := Lib.hid ((bel_trans B3.out hb4))
        skip
        have hs4 : g1 + 1 ≤ w4.heap.size := by omega
        clear Xc0 Xc1 Xc2 Xc3 Xc4
        clear X3 B3 hs3 hb4 hz4
        have yq := (HRq.out.below B4.out)
        have yq5 := yq.get 5 (.int .u32 xw) (by decide) rfl
        clear yq
        go_wp2_with fail
        refine (HO.out _).mono ?_
        rintro e w5 ⟨rfl, hb5⟩
        have hz5 := hb5.size
        have X5 := Lib.hid (X4.out.below hb5)
        have B5 := Lib.hid ((bel_trans B4.out hb5))
        skip
        have hs5 : g1 + 1 ≤ w5.heap.size := by omega
        clear yq5
        clear X4 B4 hs4 hb5 hz5
        go_upto_region 11 with fail
        have X6 := Lib.hid ((X5.out.alloc (.cells #[.int .i64 t0, .int .i64 t1, .int .i64 t2, .int .i64 t3, .int .i64 t4] 28)))
        have Y6 := Lib.hid ((BoxAt.newAt (w5) #[.int .i64 t0, .int .i64 t1, .int .i64 t2, .int .i64 t3, .int .i64 t4] 28 (w5.heap.size) (by first | omega | (simp; done) | (simp; omega))))
        have B6 := Lib.hid ((bel_alloc B5.out (.cells #[.int .i64 t0, .int .i64 t1, .int .i64 t2, .int .i64 t3, .int .i64 t4] 28)))
        obtain ⟨g6, hg6⟩ : ∃ g6, g6 = w5.heap.size := ⟨_, rfl⟩
        obtain ⟨W6, hW6⟩ : ∃ W6, W6 = (w5).alloc (.cells #[.int .i64 t0, .int .i64 t1, .int .i64 t2, .int .i64 t3, .int .i64 t4] 28) := ⟨_, rfl⟩
        have hs6 : g6 + 1 ≤ W6.heap.size := by rw [hW6, hg6]; simp
        rw [← hW6] at X6 Y6 B6 ⊢
        have hb6 : g1 + 1 ≤ g6 := by omega
        rw [← hg6] at Y6 ⊢
        clear hg6
        clear hW6 X5 B5 hs5
        have yq := (HRq.out.below B6.out)
        have yq5 := yq.get 5 (.int .u32 xw) (by decide) rfl
        clear yq
        go_wp2_with fail
        refine (HP.out _).mono ?_
        rintro e w7 ⟨rfl, hb7⟩
        have hz7 := hb7.size
        have X7 := Lib.hid (X6.out.below hb7)
        have Y7 := Lib.hid (Y6.out.below hb7)
        have B7 := Lib.hid ((bel_trans B6.out hb7))
        skip
        have hs7 : g6 + 1 ≤ w7.heap.size := by omega
        clear yq5
        clear X6 Y6 B6 hs6 hb7 hz7
        go_upto_region 12 with fail
        have X8 := Lib.hid ((X7.out.alloc (.cells #[.int .i64 t0, .int .i64 t1, .int .i64 t2, .int .i64 t3, .int .i64 t4] 28)))
        have Y8 := Lib.hid ((Y7.out.alloc (.cells #[.int .i64 t0, .int .i64 t1, .int .i64 t2, .int .i64 t3, .int .i64 t4] 28)))
        have V8 := Lib.hid ((BoxAt.newAt (w7) #[.int .i64 t0, .int .i64 t1, .int .i64 t2, .int .i64 t3, .int .i64 t4] 28 (w7.heap.size) (by first | omega | (simp; done) | (simp; omega))))
        have B8 := Lib.hid ((bel_alloc B7.out (.cells #[.int .i64 t0, .int .i64 t1, .int .i64 t2, .int .i64 t3, .int .i64 t4] 28)))
        obtain ⟨g8, hg8⟩ : ∃ g8, g8 = w7.heap.size := ⟨_, rfl⟩
        obtain ⟨W8, hW8⟩ : ∃ W8, W8 = (w7).alloc (.cells #[.int .i64 t0, .int .i64 t1, .int .i64 t2, .int .i64 t3, .int .i64 t4] 28) := ⟨_, rfl⟩
        have hs8 : g8 + 1 ≤ W8.heap.size := by rw [hW8, hg8]; simp
        rw [← hW8] at X8 Y8 V8 B8 ⊢
        have hb8 : g6 + 1 ≤ g8 := by omega
        rw [← hg8] at V8 ⊢
        clear hg8
        clear hW8 X7 Y7 B7 hs7
        have Xc0 := X8.out.get 0 (.int .i64 k) rfl
        have Xc1 := X8.out.get 1 (.int .i64 xd) rfl
        have Xc2 := X8.out.get 2 (.int .i64 xn) rfl
        have Xc3 := X8.out.get 3 (.int .i64 xm) rfl
        have Xc4 := X8.out.get 4 (.int .i64 xi) rfl
        go_wp2_with fail
        refine (HK.out _).mono ?_
        rintro e w9 ⟨rfl, hb9⟩
        have hz9 := hb9.size
        have X9 := Lib.hid (X8.out.below hb9)
        have Y9 := Lib.hid (Y8.out.below hb9)
        have V9 := Lib.hid (V8.out.below hb9)
        have B9 := Lib.hid ((bel_trans B8.out hb9))
        skip
        have hs9 : g8 + 1 ≤ w9.heap.size := by omega
        clear Xc0 Xc1 Xc2 Xc3 Xc4
        clear X8 Y8 V8 B8 hs8 hb9 hz9
        go_wp2_with fail
        refine (lnum11_any _ _).mono ?_
        rintro e w10 ⟨rfl, rfl⟩
        go_wp2_with fail
        refine (lnum11_any _ _).mono ?_
        rintro e w11 ⟨rfl, rfl⟩
        go_wp2_with fail
        refine (lnum11_any _ _).mono ?_
        rintro e w12 ⟨rfl, rfl⟩
        have Yc0 := Y9.out.get 0 (.int .i64 t0) rfl
        have Yc1 := Y9.out.get 1 (.int .i64 t1) rfl
        have Yc2 := Y9.out.get 2 (.int .i64 t2) rfl
        have Yc3 := Y9.out.get 3 (.int .i64 t3) rfl
        have Yc4 := Y9.out.get 4 (.int .i64 t4) rfl
        have Vc0 := V9.out.get 0 (.int .i64 t0) rfl
        have Vc1 := V9.out.get 1 (.int .i64 t1) rfl
        have Vc2 := V9.out.get 2 (.int .i64 t2) rfl
        have Vc3 := V9.out.get 3 (.int .i64 t3) rfl
        have Vc4 := V9.out.get 4 (.int .i64 t4) rfl
        go_wp2
        go_roundw
        case rel => exact ⟨j + 1, by omega, by go_num, B9.out⟩
        case measure => simp [intOf] <;> omega
      rw [if_pos rfl, if_pos rfl] at HW
      rw [if_pos rfl] at HK
      cases si
      · rw [if_neg (by decide)] at HO
        have yq := (HRq.out.below Br.out)
        have yq0 := yq.get0 (.int .i64 xo) (by decide) rfl
        have yq1 := yq.get 1 (.int .i64 xd) (by decide) rfl
        have yq2 := yq.get 2 (.int .i64 xn) (by decide) rfl
        have yq3 := yq.get 3 (.int .i64 xm) (by decide) rfl
        have yq4 := yq.get 4 (.int .i64 xi) (by decide) rfl
        clear yq
        go_upto_region 5 with fail
        clear yq0 yq1 yq2 yq3 yq4
        have X1 := Lib.hid ((BoxAt.newAt (wr) #[.int .i64 xo, .int .i64 xd, .int .i64 xn, .int .i64 xm, .int .i64 xi] 28 (wr.heap.size) (by first | omega | (simp; done) | (simp; omega))))
        have B1 := Lib.hid ((bel_alloc Br.out (.cells #[.int .i64 xo, .int .i64 xd, .int .i64 xn, .int .i64 xm, .int .i64 xi] 28)))
        obtain ⟨g1, hg1⟩ : ∃ g1, g1 = wr.heap.size := ⟨_, rfl⟩
        obtain ⟨W1, hW1⟩ : ∃ W1, W1 = (wr).alloc (.cells #[.int .i64 xo, .int .i64 xd, .int .i64 xn, .int .i64 xm, .int .i64 xi] 28) := ⟨_, rfl⟩
        have hs1 : g1 + 1 ≤ W1.heap.size := by rw [hW1, hg1]; simp
        rw [← hW1] at X1 B1 ⊢
        have hb1 : mr ≤ g1 := by omega
        rw [← hg1] at X1 ⊢
        clear hg1
        clear hW1 Br hsr
        have Xc0 := X1.out.get 0 (.int .i64 xo) rfl
        have Xz0 := X1.out.free 0
        go_upto_region 6 with fail
        clear Xc0 Xz0
        have X2 := Lib.hid ((X1.out.set 0 (.int .i64 k) #[.int .i64 k, .int .i64 xd, .int .i64 xn, .int .i64 xm, .int .i64 xi] rfl))
        have B2 := Lib.hid ((Below.setCell B1.out (p := ⟨g1, 0, none⟩) (show w.heap.size ≤ g1 by omega) (.int .i64 k)))
        obtain ⟨W2, hW2⟩ : ∃ W2, W2 = (W1).setCell ⟨g1, 0, none⟩ (.int .i64 k) := ⟨_, rfl⟩
        have hs2 : g1 + 1 ≤ W2.heap.size := by rw [hW2]; first | (simp [World.setCell]; omega) | (simp [World.setCell, World.setRow]; omega) | exact hs1
        rw [← hW2] at X2 B2 ⊢
        clear hW2 X1 B1 hs1
        have Xc0 := X2.out.get 0 (.int .i64 k) rfl
        have Xc1 := X2.out.get 1 (.int .i64 xd) rfl
        have Xc2 := X2.out.get 2 (.int .i64 xn) rfl
        have Xc3 := X2.out.get 3 (.int .i64 xm) rfl
        have Xc4 := X2.out.get 4 (.int .i64 xi) rfl
        go_wp2_with fail
        refine (HW.out _).mono ?_
        rintro e w3 ⟨rfl, hb3⟩
        have hz3 := hb3.size
        have X3 := Lib.hid (X2.out.below hb3)
        have B3 := Lib.hid ((bel_trans B2.out hb3))
        skip
        have hs3 : g1 + 1 ≤ w3.heap.size := by omega
        clear Xc0 Xc1 Xc2 Xc3 Xc4
        clear X2 B2 hs2 hb3 hz3
        have Xc0 := X3.out.get 0 (.int .i64 k) rfl
        have Xc1 := X3.out.get 1 (.int .i64 xd) rfl
        have Xc2 := X3.out.get 2 (.int .i64 xn) rfl
        have Xc3 := X3.out.get 3 (.int .i64 xm) rfl
        have Xc4 := X3.out.get 4 (.int .i64 xi) rfl
        go_wp2_with fail
        refine (HR.out _).mono ?_
        rintro e w4 ⟨rfl, hb4⟩
        have hz4 := hb4.size
        have X4 := Lib.hid (X3.out.below hb4)
        have B4 := Lib.hid ((bel_trans B3.out hb4))
        skip
        have hs4 : g1 + 1 ≤ w4.heap.size := by omega
        clear Xc0 Xc1 Xc2 Xc3 Xc4
        clear X3 B3 hs3 hb4 hz4
        have Xc0 := X4.out.get 0 (.int .i64 k) rfl
        have Xc1 := X4.out.get 1 (.int .i64 xd) rfl
        have Xc2 := X4.out.get 2 (.int .i64 xn) rfl
        have Xc3 := X4.out.get 3 (.int .i64 xm) rfl
        have Xc4 := X4.out.get 4 (.int .i64 xi) rfl
        go_wp2_with fail
        refine (HV.out (by first | trivial | rfl) _).mono ?_
        rintro e w5 ⟨rfl, hb5⟩
        have hz5 := hb5.size
        have X5 := Lib.hid (X4.out.below hb5)
        have B5 := Lib.hid ((bel_trans B4.out hb5))
        skip
        have hs5 : g1 + 1 ≤ w5.heap.size := by omega
        clear Xc0 Xc1 Xc2 Xc3 Xc4
        clear X4 B4 hs4 hb5 hz5
        have yq := (HRq.out.below B5.out)
        have yq5 := yq.get 5 (.int .u32 xw) (by decide) rfl
        clear yq
        go_wp2_with fail
        refine (HO.out _).mono ?_
        rintro e w6 ⟨rfl, hb6⟩
        have hz6 := hb6.size
        have X6 := Lib.hid (X5.out.below hb6)
        have B6 := Lib.hid ((bel_trans B5.out hb6))
        skip
        have hs6 : g1 + 1 ≤ w6.heap.size := by omega
        clear yq5
        clear X5 B5 hs5 hb6 hz6
        go_upto_region 11 with fail
        have X7 := Lib.hid ((X6.out.alloc (.cells #[.int .i64 t0, .int .i64 t1, .int .i64 t2, .int .i64 t3, .int .i64 t4] 28)))
        have Y7 := Lib.hid ((BoxAt.newAt (w6) #[.int .i64 t0, .int .i64 t1, .int .i64 t2, .int .i64 t3, .int .i64 t4] 28 (w6.heap.size) (by first | omega | (simp; done) | (simp; omega))))
        have B7 := Lib.hid ((bel_alloc B6.out (.cells #[.int .i64 t0, .int .i64 t1, .int .i64 t2, .int .i64 t3, .int .i64 t4] 28)))
        obtain ⟨g7, hg7⟩ : ∃ g7, g7 = w6.heap.size := ⟨_, rfl⟩
        obtain ⟨W7, hW7⟩ : ∃ W7, W7 = (w6).alloc (.cells #[.int .i64 t0, .int .i64 t1, .int .i64 t2, .int .i64 t3, .int .i64 t4] 28) := ⟨_, rfl⟩
        have hs7 : g7 + 1 ≤ W7.heap.size := by rw [hW7, hg7]; simp
        rw [← hW7] at X7 Y7 B7 ⊢
        have hb7 : g1 + 1 ≤ g7 := by omega
        rw [← hg7] at Y7 ⊢
        clear hg7
        clear hW7 X6 B6 hs6
        have yq := (HRq.out.below B7.out)
        have yq5 := yq.get 5 (.int .u32 xw) (by decide) rfl
        clear yq
        go_wp2_with fail
        refine (HP.out _).mono ?_
        rintro e w8 ⟨rfl, hb8⟩
        have hz8 := hb8.size
        have X8 := Lib.hid (X7.out.below hb8)
        have Y8 := Lib.hid (Y7.out.below hb8)
        have B8 := Lib.hid ((bel_trans B7.out hb8))
        skip
        have hs8 : g7 + 1 ≤ w8.heap.size := by omega
        clear yq5
        clear X7 Y7 B7 hs7 hb8 hz8
        go_upto_region 12 with fail
        have X9 := Lib.hid ((X8.out.alloc (.cells #[.int .i64 t0, .int .i64 t1, .int .i64 t2, .int .i64 t3, .int .i64 t4] 28)))
        have Y9 := Lib.hid ((Y8.out.alloc (.cells #[.int .i64 t0, .int .i64 t1, .int .i64 t2, .int .i64 t3, .int .i64 t4] 28)))
        have V9 := Lib.hid ((BoxAt.newAt (w8) #[.int .i64 t0, .int .i64 t1, .int .i64 t2, .int .i64 t3, .int .i64 t4] 28 (w8.heap.size) (by first | omega | (simp; done) | (simp; omega))))
        have B9 := Lib.hid ((bel_alloc B8.out (.cells #[.int .i64 t0, .int .i64 t1, .int .i64 t2, .int .i64 t3, .int .i64 t4] 28)))
        obtain ⟨g9, hg9⟩ : ∃ g9, g9 = w8.heap.size := ⟨_, rfl⟩
        obtain ⟨W9, hW9⟩ : ∃ W9, W9 = (w8).alloc (.cells #[.int .i64 t0, .int .i64 t1, .int .i64 t2, .int .i64 t3, .int .i64 t4] 28) := ⟨_, rfl⟩
        have hs9 : g9 + 1 ≤ W9.heap.size := by rw [hW9, hg9]; simp
        rw [← hW9] at X9 Y9 V9 B9 ⊢
        have hb9 : g7 + 1 ≤ g9 := by omega
        rw [← hg9] at V9 ⊢
        clear hg9
        clear hW9 X8 Y8 B8 hs8
        have Xc0 := X9.out.get 0 (.int .i64 k) rfl
        have Xc1 := X9.out.get 1 (.int .i64 xd) rfl
        have Xc2 := X9.out.get 2 (.int .i64 xn) rfl
        have Xc3 := X9.out.get 3 (.int .i64 xm) rfl
        have Xc4 := X9.out.get 4 (.int .i64 xi) rfl
        go_wp2_with fail
        refine (HK.out _).mono ?_
        rintro e w10 ⟨rfl, hb10⟩
        have hz10 := hb10.size
        have X10 := Lib.hid (X9.out.below hb10)
        have Y10 := Lib.hid (Y9.out.below hb10)
        have V10 := Lib.hid (V9.out.below hb10)
        have B10 := Lib.hid ((bel_trans B9.out hb10))
        skip
        have hs10 : g9 + 1 ≤ w10.heap.size := by omega
        clear Xc0 Xc1 Xc2 Xc3 Xc4
        clear X9 Y9 V9 B9 hs9 hb10 hz10
        go_wp2_with fail
        refine (lnum11_any _ _).mono ?_
        rintro e w11 ⟨rfl, rfl⟩
        go_wp2_with fail
        refine (lnum11_any _ _).mono ?_
        rintro e w12 ⟨rfl, rfl⟩
        go_wp2_with fail
        refine (lnum11_any _ _).mono ?_
        rintro e w13 ⟨rfl, rfl⟩
        have Yc0 := Y10.out.get 0 (.int .i64 t0) rfl
        have Yc1 := Y10.out.get 1 (.int .i64 t1) rfl
        have Yc2 := Y10.out.get 2 (.int .i64 t2) rfl
        have Yc3 := Y10.out.get 3 (.int .i64 t3) rfl
        have Yc4 := Y10.out.get 4 (.int .i64 t4) rfl
        have Vc0 := V10.out.get 0 (.int .i64 t0) rfl
        have Vc1 := V10.out.get 1 (.int .i64 t1) rfl
        have Vc2 := V10.out.get 2 (.int .i64 t2) rfl
        have Vc3 := V10.out.get 3 (.int .i64 t3) rfl
        have Vc4 := V10.out.get 4 (.int .i64 t4) rfl
        go_wp2
        go_roundw
        case rel => exact ⟨j + 1, by omega, by go_num, B10.out⟩
        case measure => simp [intOf] <;> omega
      rw [if_pos rfl] at HO
      have yq := (HRq.out.below Br.out)
      have yq0 := yq.get0 (.int .i64 xo) (by decide) rfl
      have yq1 := yq.get 1 (.int .i64 xd) (by decide) rfl
      have yq2 := yq.get 2 (.int .i64 xn) (by decide) rfl
      have yq3 := yq.get 3 (.int .i64 xm) (by decide) rfl
      have yq4 := yq.get 4 (.int .i64 xi) (by decide) rfl
      clear yq
      go_upto_region 5 with fail
      clear yq0 yq1 yq2 yq3 yq4
      have X1 := Lib.hid ((BoxAt.newAt (wr) #[.int .i64 xo, .int .i64 xd, .int .i64 xn, .int .i64 xm, .int .i64 xi] 28 (wr.heap.size) (by first | omega | (simp; done) | (simp; omega))))
      have B1 := Lib.hid ((bel_alloc Br.out (.cells #[.int .i64 xo, .int .i64 xd, .int .i64 xn, .int .i64 xm, .int .i64 xi] 28)))
      obtain ⟨g1, hg1⟩ : ∃ g1, g1 = wr.heap.size := ⟨_, rfl⟩
      obtain ⟨W1, hW1⟩ : ∃ W1, W1 = (wr).alloc (.cells #[.int .i64 xo, .int .i64 xd, .int .i64 xn, .int .i64 xm, .int .i64 xi] 28) := ⟨_, rfl⟩
      have hs1 : g1 + 1 ≤ W1.heap.size := by rw [hW1, hg1]; simp
      rw [← hW1] at X1 B1 ⊢
      have hb1 : mr ≤ g1 := by omega
      rw [← hg1] at X1 ⊢
      clear hg1
      clear hW1 Br hsr
      have Xc0 := X1.out.get 0 (.int .i64 xo) rfl
      have Xz0 := X1.out.free 0
      go_upto_region 6 with fail
      clear Xc0 Xz0
      have X2 := Lib.hid ((X1.out.set 0 (.int .i64 k) #[.int .i64 k, .int .i64 xd, .int .i64 xn, .int .i64 xm, .int .i64 xi] rfl))
      have B2 := Lib.hid ((Below.setCell B1.out (p := ⟨g1, 0, none⟩) (show w.heap.size ≤ g1 by omega) (.int .i64 k)))
      obtain ⟨W2, hW2⟩ : ∃ W2, W2 = (W1).setCell ⟨g1, 0, none⟩ (.int .i64 k) := ⟨_, rfl⟩
      have hs2 : g1 + 1 ≤ W2.heap.size := by rw [hW2]; first | (simp [World.setCell]; omega) | (simp [World.setCell, World.setRow]; omega) | exact hs1
      rw [← hW2] at X2 B2 ⊢
      clear hW2 X1 B1 hs1
      have Xc0 := X2.out.get 0 (.int .i64 k) rfl
      have Xc1 := X2.out.get 1 (.int .i64 xd) rfl
      have Xc2 := X2.out.get 2 (.int .i64 xn) rfl
      have Xc3 := X2.out.get 3 (.int .i64 xm) rfl
      have Xc4 := X2.out.get 4 (.int .i64 xi) rfl
      go_wp2_with fail
      refine (HW.out _).mono ?_
      rintro e w3 ⟨rfl, hb3⟩
      have hz3 := hb3.size
      have X3 := Lib.hid (X2.out.below hb3)
      have B3 := Lib.hid ((bel_trans B2.out hb3))
      skip
      have hs3 : g1 + 1 ≤ w3.heap.size := by omega
      clear Xc0 Xc1 Xc2 Xc3 Xc4
      clear X2 B2 hs2 hb3 hz3
      have Xc0 := X3.out.get 0 (.int .i64 k) rfl
      have Xc1 := X3.out.get 1 (.int .i64 xd) rfl
      have Xc2 := X3.out.get 2 (.int .i64 xn) rfl
      have Xc3 := X3.out.get 3 (.int .i64 xm) rfl
      have Xc4 := X3.out.get 4 (.int .i64 xi) rfl
      go_wp2_with fail
      refine (HR.out _).mono ?_
      rintro e w4 ⟨rfl, hb4⟩
      have hz4 := hb4.size
      have X4 := Lib.hid (X3.out.below hb4)
      have B4 := Lib.hid ((bel_trans B3.out hb4))
      skip
      have hs4 : g1 + 1 ≤ w4.heap.size := by omega
      clear Xc0 Xc1 Xc2 Xc3 Xc4
      clear X3 B3 hs3 hb4 hz4
      have Xc0 := X4.out.get 0 (.int .i64 k) rfl
      have Xc1 := X4.out.get 1 (.int .i64 xd) rfl
      have Xc2 := X4.out.get 2 (.int .i64 xn) rfl
      have Xc3 := X4.out.get 3 (.int .i64 xm) rfl
      have Xc4 := X4.out.get 4 (.int .i64 xi) rfl
      go_wp2_with fail
      refine (HV.out (by first | trivial | rfl) _).mono ?_
      rintro e w5 ⟨rfl, hb5⟩
      have hz5 := hb5.size
      have X5 := Lib.hid (X4.out.below hb5)
      have B5 := Lib.hid ((bel_trans B4.out hb5))
      skip
      have hs5 : g1 + 1 ≤ w5.heap.size := by omega
      clear Xc0 Xc1 Xc2 Xc3 Xc4
      clear X4 B4 hs4 hb5 hz5
      have yq := (HRq.out.below B5.out)
      have yq5 := yq.get 5 (.int .u32 xw) (by decide) rfl
      clear yq
      go_wp2_with fail
      refine (HO.out _).mono ?_
      rintro e w6 ⟨rfl, hb6⟩
      have hz6 := hb6.size
      have X6 := Lib.hid (X5.out.below hb6)
      have B6 := Lib.hid ((bel_trans B5.out hb6))
      skip
      have hs6 : g1 + 1 ≤ w6.heap.size := by omega
      clear yq5
      clear X5 B5 hs5 hb6 hz6
      go_upto_region 11 with fail
      have X7 := Lib.hid ((X6.out.alloc (.cells #[.int .i64 t0, .int .i64 t1, .int .i64 t2, .int .i64 t3, .int .i64 t4] 28)))
      have Y7 := Lib.hid ((BoxAt.newAt (w6) #[.int .i64 t0, .int .i64 t1, .int .i64 t2, .int .i64 t3, .int .i64 t4] 28 (w6.heap.size) (by first | omega | (simp; done) | (simp; omega))))
      have B7 := Lib.hid ((bel_alloc B6.out (.cells #[.int .i64 t0, .int .i64 t1, .int .i64 t2, .int .i64 t3, .int .i64 t4] 28)))
      obtain ⟨g7, hg7⟩ : ∃ g7, g7 = w6.heap.size := ⟨_, rfl⟩
      obtain ⟨W7, hW7⟩ : ∃ W7, W7 = (w6).alloc (.cells #[.int .i64 t0, .int .i64 t1, .int .i64 t2, .int .i64 t3, .int .i64 t4] 28) := ⟨_, rfl⟩
      have hs7 : g7 + 1 ≤ W7.heap.size := by rw [hW7, hg7]; simp
      rw [← hW7] at X7 Y7 B7 ⊢
      have hb7 : g1 + 1 ≤ g7 := by omega
      rw [← hg7] at Y7 ⊢
      clear hg7
      clear hW7 X6 B6 hs6
      have yq := (HRq.out.below B7.out)
      have yq5 := yq.get 5 (.int .u32 xw) (by decide) rfl
      clear yq
      go_wp2_with fail
      refine (HP.out _).mono ?_
      rintro e w8 ⟨rfl, hb8⟩
      have hz8 := hb8.size
      have X8 := Lib.hid (X7.out.below hb8)
      have Y8 := Lib.hid (Y7.out.below hb8)
      have B8 := Lib.hid ((bel_trans B7.out hb8))
      skip
      have hs8 : g7 + 1 ≤ w8.heap.size := by omega
      clear yq5
      clear X7 Y7 B7 hs7 hb8 hz8
      go_upto_region 12 with fail
      have X9 := Lib.hid ((X8.out.alloc (.cells #[.int .i64 t0, .int .i64 t1, .int .i64 t2, .int .i64 t3, .int .i64 t4] 28)))
      have Y9 := Lib.hid ((Y8.out.alloc (.cells #[.int .i64 t0, .int .i64 t1, .int .i64 t2, .int .i64 t3, .int .i64 t4] 28)))
      have V9 := Lib.hid ((BoxAt.newAt (w8) #[.int .i64 t0, .int .i64 t1, .int .i64 t2, .int .i64 t3, .int .i64 t4] 28 (w8.heap.size) (by first | omega | (simp; done) | (simp; omega))))
      have B9 := Lib.hid ((bel_alloc B8.out (.cells #[.int .i64 t0, .int .i64 t1, .int .i64 t2, .int .i64 t3, .int .i64 t4] 28)))
      obtain ⟨g9, hg9⟩ : ∃ g9, g9 = w8.heap.size := ⟨_, rfl⟩
      obtain ⟨W9, hW9⟩ : ∃ W9, W9 = (w8).alloc (.cells #[.int .i64 t0, .int .i64 t1, .int .i64 t2, .int .i64 t3, .int .i64 t4] 28) := ⟨_, rfl⟩
      have hs9 : g9 + 1 ≤ W9.heap.size := by rw [hW9, hg9]; simp
      rw [← hW9] at X9 Y9 V9 B9 ⊢
      have hb9 : g7 + 1 ≤ g9 := by omega
      rw [← hg9] at V9 ⊢
      clear hg9
      clear hW9 X8 Y8 B8 hs8
      have Xc0 := X9.out.get 0 (.int .i64 k) rfl
      have Xc1 := X9.out.get 1 (.int .i64 xd) rfl
      have Xc2 := X9.out.get 2 (.int .i64 xn) rfl
      have Xc3 := X9.out.get 3 (.int .i64 xm) rfl
      have Xc4 := X9.out.get 4 (.int .i64 xi) rfl
      go_wp2_with fail
      refine (HK.out _).mono ?_
      rintro e w10 ⟨rfl, hb10⟩
      have hz10 := hb10.size
      have X10 := Lib.hid (X9.out.below hb10)
      have Y10 := Lib.hid (Y9.out.below hb10)
      have V10 := Lib.hid (V9.out.below hb10)
      have B10 := Lib.hid ((bel_trans B9.out hb10))
      skip
      have hs10 : g9 + 1 ≤ w10.heap.size := by omega
      clear Xc0 Xc1 Xc2 Xc3 Xc4
      clear X9 Y9 V9 B9 hs9 hb10 hz10
      go_wp2_with fail
      refine (lnum11_any _ _).mono ?_
      rintro e w11 ⟨rfl, rfl⟩
      go_wp2_with fail
      refine (lnum11_any _ _).mono ?_
      rintro e w12 ⟨rfl, rfl⟩
      go_wp2_with fail
      refine (lnum11_any _ _).mono ?_
      rintro e w13 ⟨rfl, rfl⟩
      have Yc0 := Y10.out.get 0 (.int .i64 t0) rfl
      have Yc1 := Y10.out.get 1 (.int .i64 t1) rfl
      have Yc2 := Y10.out.get 2 (.int .i64 t2) rfl
      have Yc3 := Y10.out.get 3 (.int .i64 t3) rfl
      have Yc4 := Y10.out.get 4 (.int .i64 t4) rfl
      have Vc0 := V10.out.get 0 (.int .i64 t0) rfl
      have Vc1 := V10.out.get 1 (.int .i64 t1) rfl
      have Vc2 := V10.out.get 2 (.int .i64 t2) rfl
      have Vc3 := V10.out.get 3 (.int .i64 t3) rfl
      have Vc4 := V10.out.get 4 (.int .i64 t4) rfl
      go_wp2
      go_roundw
      case rel => exact ⟨j + 1, by omega, by go_num, B10.out⟩
      case measure => simp [intOf] <;> omega
    · go_wp2_with fail
      refine (wakes11_any _).mono ?_
      rintro e w1 ⟨rfl, hb1⟩
      have hz1 := hb1.size
      have B1 := Lib.hid ((bel_trans Br.out hb1))
      skip
      have hs1 : mr ≤ w1.heap.size := by omega
      clear Br hsr hb1 hz1
      go_wp2
      go_ret
      exact ⟨rfl, B1.out⟩
set_option maxRecDepth 100000 in
set_option maxHeartbeats 3200000 in
theorem words11_walk (b o l c : Nat) (w : World) (q : Nat → Q11) (hl : l ≤ 9223372036854775807) (hc : ∀ i, i < l → RowAt w b (o + i * 6) 6 (ask11V (q i)) ∧ (0 ≤ (q i).w ∧ (q i).w ≤ 4294967295)) :
    Calls Try.prog 3 #[.slice (some ⟨b, o, none⟩) l c] w fun e w' => e = .returned (.bool true) ∧ Below w.heap.size w w' := by
  have HC := Lib.hid hc
  clear hc
  have htw : w.heap.size ≤ w.heap.size := Nat.le_refl _
  have B0 := Lib.hid (Below.refl w.heap.size w)
  go_enter Try.func3, Try.ntmps3
  go_wp2
  go_loopw [3] (fun i wr => ∃ (j : Nat), j ≤ l ∧ i = .int .i64 j ∧ Hid (Below w.heap.size w wr)) (fun i _ => l - (intOf i).toNat)
  case atStart => exact ⟨0, by omega, rfl, B0.out⟩
  case round =>
    clear B0
    obtain ⟨j, hkj, rfl, Br⟩ := hrel
    obtain ⟨mr, hmr⟩ : ∃ mr, mr = wr.heap.size := ⟨_, rfl⟩
    have hgwr : w.heap.size ≤ mr := by rw [hmr]; exact Br.out.size
    have hsr : mr ≤ wr.heap.size := by omega
    clear hmr
    by_cases hltj : j < l
    · have ik0j : (0 : Int) ≤ (j : Int) := by omega
      have ik1j : (j : Int) < (l : Int) := by omega
      have ikwj : IntKind.i64.wrap ((j : Int) + 1) = (j : Int) + 1 := IntWalk.i64_in _ (by omega)
      by_cases hlij : j < 20
      rotate_left
      · have dlj : decide ((j : Int) < 20) = false := decide_eq_false (by omega)
        go_wp2_with fail
        refine (wakes11_any _).mono ?_
        rintro e w1 ⟨rfl, hb1⟩
        have hz1 := hb1.size
        have B1 := Lib.hid ((bel_trans Br.out hb1))
        skip
        have hs1 : mr ≤ w1.heap.size := by omega
        clear Br hsr hb1 hz1
        go_wp2
        go_ret
        exact ⟨rfl, B1.out⟩
      have dlj : decide ((j : Int) < 20) = true := decide_eq_true (by omega)
      have HRq0 := HC.out j hltj
      have HRq := Lib.hid HRq0.1
      have hq0 := HRq0.2
      clear HRq0
      generalize q j = qj at *
      obtain ⟨⟨xo, xd, xn, xm, xi⟩, xw⟩ := qj
      unfold ask11V at HRq
      simp only at HRq hq0
      obtain ⟨hq0, hq1⟩ := hq0
      have hv0 := hq0
      have hv1 := hq1
      clear hq0 hq1
      have HW := Lib.hid (fun W => inWordC ⟨xo, xd, xn, xm, xi⟩ W)
      have HK := Lib.hid (fun W => inCheckC ⟨xo, xd, xn, xm, xi⟩ W)
      have HR := Lib.hid (fun W => rinsn_any ⟨xo, xd, xn, xm, xi⟩ W)
      have HV := Lib.hid (fun h W => rword_any xo xd xn xm xi h W)
      have HO := Lib.hid (fun W => inOfC xw hv0 hv1 W)
      have HP := Lib.hid (fun W => rof_any xw hv0 hv1 W)
      generalize wordI ⟨xo, xd, xn, xm, xi⟩ = wt at *
      generalize mayI ⟨xo, xd, xn, xm, xi⟩ = mb at *
      generalize isI xw = si at *
      generalize ofI xw = tt at *
      obtain ⟨t0, t1, t2, t3, t4⟩ := tt
      unfold insV at HW HK HR HO HP
      simp only at HW HK HR HO HP
      have heq : eqIn ⟨t0, t1, t2, t3, t4⟩ ⟨t0, t1, t2, t3, t4⟩ = true := eqIn_self _
      clear hv0 hv1
      cases mb
      · rw [if_neg (by decide), if_neg (by decide)] at HW
        rw [if_neg (by decide)] at HK
        cases si
        · rw [if_neg (by decide)] at HO
          have yq := (HRq.out.below Br.out)
          have yq0 := yq.get0 (.int .i64 xo) (by decide) rfl
          have yq1 := yq.get 1 (.int .i64 xd) (by decide) rfl
          have yq2 := yq.get 2 (.int .i64 xn) (by decide) rfl
          have yq3 := yq.get 3 (.int .i64 xm) (by decide) rfl
          have yq4 := yq.get 4 (.int .i64 xi) (by decide) rfl
          clear yq
          go_wp2_with fail
          refine (HW.out _).mono ?_
          rintro e w1 ⟨rfl, hb1⟩
          have hz1 := hb1.size
          have B1 := Lib.hid ((bel_trans Br.out hb1))
          skip
          have hs1 : mr ≤ w1.heap.size := by omega
          clear yq0 yq1 yq2 yq3 yq4
          clear Br hsr hb1 hz1
          have yq := (HRq.out.below B1.out)
          have yq0 := yq.get0 (.int .i64 xo) (by decide) rfl
          have yq1 := yq.get 1 (.int .i64 xd) (by decide) rfl
          have yq2 := yq.get 2 (.int .i64 xn) (by decide) rfl
          have yq3 := yq.get 3 (.int .i64 xm) (by decide) rfl
          have yq4 := yq.get 4 (.int .i64 xi) (by decide) rfl
          clear yq
          go_wp2_with fail
          refine (HR.out _).mono ?_
          rintro e w2 ⟨rfl, hb2⟩
          have hz2 := hb2.size
          have B2 := Lib.hid ((bel_trans B1.out hb2))
          skip
          have hs2 : mr ≤ w2.heap.size := by omega
          clear yq0 yq1 yq2 yq3 yq4
          clear B1 hs1 hb2 hz2
          have yq := (HRq.out.below B2.out)
          have yq5 := yq.get 5 (.int .u32 xw) (by decide) rfl
          clear yq
          go_wp2_with fail
          refine (HO.out _).mono ?_
          rintro e w3 ⟨rfl, hb3⟩
          have hz3 := hb3.size
          have B3 := Lib.hid ((bel_trans B2.out hb3))
          skip
          have hs3 : mr ≤ w3.heap.size := by omega
          clear yq5
          clear B2 hs2 hb3 hz3
          go_upto_region 9 with fail
          have Y4 := Lib.hid ((BoxAt.newAt (w3) #[.int .i64 t0, .int .i64 t1, .int .i64 t2, .int .i64 t3, .int .i64 t4] 28 (w3.heap.size) (by first | omega | (simp; done) | (simp; omega))))
          have B4 := Lib.hid ((bel_alloc B3.out (.cells #[.int .i64 t0, .int .i64 t1, .int .i64 t2, .int .i64 t3, .int .i64 t4] 28)))
          obtain ⟨g4, hg4⟩ : ∃ g4, g4 = w3.heap.size := ⟨_, rfl⟩
          obtain ⟨W4, hW4⟩ : ∃ W4, W4 = (w3).alloc (.cells #[.int .i64 t0, .int .i64 t1, .int .i64 t2, .int .i64 t3, .int .i64 t4] 28) := ⟨_, rfl⟩
          have hs4 : g4 + 1 ≤ W4.heap.size := by rw [hW4, hg4]; simp
          rw [← hW4] at Y4 B4 ⊢
          have hb4 : mr ≤ g4 := by omega
          rw [← hg4] at Y4 ⊢
          clear hg4
          clear hW4 B3 hs3
          have yq := (HRq.out.below B4.out)
          have yq5 := yq.get 5 (.int .u32 xw) (by decide) rfl
          clear yq
          go_wp2_with fail
          refine (HP.out _).mono ?_
          rintro e w5 ⟨rfl, hb5⟩
          have hz5 := hb5.size
          have Y5 := Lib.hid (Y4.out.below hb5)
          have B5 := Lib.hid ((bel_trans B4.out hb5))
          skip
          have hs5 : g4 + 1 ≤ w5.heap.size := by omega
          clear yq5
          clear Y4 B4 hs4 hb5 hz5
          go_upto_region 10 with fail
          have Y6 := Lib.hid ((Y5.out.alloc (.cells #[.int .i64 t0, .int .i64 t1, .int .i64 t2, .int .i64 t3, .int .i64 t4] 28)))
          have V6 := Lib.hid ((BoxAt.newAt (w5) #[.int .i64 t0, .int .i64 t1, .int .i64 t2, .int .i64 t3, .int .i64 t4] 28 (w5.heap.size) (by first | omega | (simp; done) | (simp; omega))))
          have B6 := Lib.hid ((bel_alloc B5.out (.cells #[.int .i64 t0, .int .i64 t1, .int .i64 t2, .int .i64 t3, .int .i64 t4] 28)))
          obtain ⟨g6, hg6⟩ : ∃ g6, g6 = w5.heap.size := ⟨_, rfl⟩
          obtain ⟨W6, hW6⟩ : ∃ W6, W6 = (w5).alloc (.cells #[.int .i64 t0, .int .i64 t1, .int .i64 t2, .int .i64 t3, .int .i64 t4] 28) := ⟨_, rfl⟩
          have hs6 : g6 + 1 ≤ W6.heap.size := by rw [hW6, hg6]; simp
          rw [← hW6] at Y6 V6 B6 ⊢
          have hb6 : g4 + 1 ≤ g6 := by omega
          rw [← hg6] at V6 ⊢
          clear hg6
          clear hW6 Y5 B5 hs5
          have yq := (HRq.out.below B6.out)
          have yq0 := yq.get0 (.int .i64 xo) (by decide) rfl
          have yq1 := yq.get 1 (.int .i64 xd) (by decide) rfl
          have yq2 := yq.get 2 (.int .i64 xn) (by decide) rfl
          have yq3 := yq.get 3 (.int .i64 xm) (by decide) rfl
          have yq4 := yq.get 4 (.int .i64 xi) (by decide) rfl
          clear yq
          go_wp2_with fail
          refine (HK.out _).mono ?_
          rintro e w7 ⟨rfl, hb7⟩
          have hz7 := hb7.size
          have Y7 := Lib.hid (Y6.out.below hb7)
          have V7 := Lib.hid (V6.out.below hb7)
          have B7 := Lib.hid ((bel_trans B6.out hb7))
          skip
          have hs7 : g6 + 1 ≤ w7.heap.size := by omega
          clear yq0 yq1 yq2 yq3 yq4
          clear Y6 V6 B6 hs6 hb7 hz7
          go_wp2_with fail
          refine (lnum11_any _ _).mono ?_
          rintro e w8 ⟨rfl, rfl⟩
          go_wp2_with fail
          refine (lnum11_any _ _).mono ?_
          rintro e w9 ⟨rfl, rfl⟩
          go_wp2_with fail
          refine (lnum11_any _ _).mono ?_
          rintro e w10 ⟨rfl, rfl⟩
          go_wp2_with fail
          refine (lnum11_any _ _).mono ?_
          rintro e w11 ⟨rfl, rfl⟩
          have Yc0 := Y7.out.get 0 (.int .i64 t0) rfl
          have Yc1 := Y7.out.get 1 (.int .i64 t1) rfl
          have Yc2 := Y7.out.get 2 (.int .i64 t2) rfl
          have Yc3 := Y7.out.get 3 (.int .i64 t3) rfl
          have Yc4 := Y7.out.get 4 (.int .i64 t4) rfl
          have Vc0 := V7.out.get 0 (.int .i64 t0) rfl
          have Vc1 := V7.out.get 1 (.int .i64 t1) rfl
          have Vc2 := V7.out.get 2 (.int .i64 t2) rfl
          have Vc3 := V7.out.get 3 (.int .i64 t3) rfl
          have Vc4 := V7.out.get 4 (.int .i64 t4) rfl
          go_wp2
          go_roundw
          case rel => exact ⟨j + 1, by omega, by go_num, B7.out⟩
          case measure => simp [intOf] <;> omega
        rw [if_pos rfl] at HO
        have yq := (HRq.out.below Br.out)
        have yq0 := yq.get0 (.int .i64 xo) (by decide) rfl
        have yq1 := yq.get 1 (.int .i64 xd) (by decide) rfl
        have yq2 := yq.get 2 (.int .i64 xn) (by decide) rfl
        have yq3 := yq.get 3 (.int .i64 xm) (by decide) rfl
        have yq4 := yq.get 4 (.int .i64 xi) (by decide) rfl
        clear yq
        go_wp2_with fail
        refine (HW.out _).mono ?_
        rintro e w1 ⟨rfl, hb1⟩
        have hz1 := hb1.size
        have B1 := Lib.hid ((bel_trans Br.out hb1))
        skip
        have hs1 : mr ≤ w1.heap.size := by omega
        clear yq0 yq1 yq2 yq3 yq4
        clear Br hsr hb1 hz1
        have yq := (HRq.out.below B1.out)
        have yq0 := yq.get0 (.int .i64 xo) (by decide) rfl
        have yq1 := yq.get 1 (.int .i64 xd) (by decide) rfl
        have yq2 := yq.get 2 (.int .i64 xn) (by decide) rfl
        have yq3 := yq.get 3 (.int .i64 xm) (by decide) rfl
        have yq4 := yq.get 4 (.int .i64 xi) (by decide) rfl
        clear yq
        go_wp2_with fail
        refine (HR.out _).mono ?_
        rintro e w2 ⟨rfl, hb2⟩
        have hz2 := hb2.size
        have B2 := Lib.hid ((bel_trans B1.out hb2))
        skip
        have hs2 : mr ≤ w2.heap.size := by omega
        clear yq0 yq1 yq2 yq3 yq4
        clear B1 hs1 hb2 hz2
        have yq := (HRq.out.below B2.out)
        have yq5 := yq.get 5 (.int .u32 xw) (by decide) rfl
        clear yq
        go_wp2_with fail
        refine (HO.out _).mono ?_
        rintro e w3 ⟨rfl, hb3⟩
        have hz3 := hb3.size
        have B3 := Lib.hid ((bel_trans B2.out hb3))
        skip
        have hs3 : mr ≤ w3.heap.size := by omega
        clear yq5
        clear B2 hs2 hb3 hz3
        go_upto_region 9 with fail
        have Y4 := Lib.hid ((BoxAt.newAt (w3) #[.int .i64 t0, .int .i64 t1, .int .i64 t2, .int .i64 t3, .int .i64 t4] 28 (w3.heap.size) (by first | omega | (simp; done) | (simp; omega))))
        have B4 := Lib.hid ((bel_alloc B3.out (.cells #[.int .i64 t0, .int .i64 t1, .int .i64 t2, .int .i64 t3, .int .i64 t4] 28)))
        obtain ⟨g4, hg4⟩ : ∃ g4, g4 = w3.heap.size := ⟨_, rfl⟩
        obtain ⟨W4, hW4⟩ : ∃ W4, W4 = (w3).alloc (.cells #[.int .i64 t0, .int .i64 t1, .int .i64 t2, .int .i64 t3, .int .i64 t4] 28) := ⟨_, rfl⟩
        have hs4 : g4 + 1 ≤ W4.heap.size := by rw [hW4, hg4]; simp
        rw [← hW4] at Y4 B4 ⊢
        have hb4 : mr ≤ g4 := by omega
        rw [← hg4] at Y4 ⊢
        clear hg4
        clear hW4 B3 hs3
        have yq := (HRq.out.below B4.out)
        have yq5 := yq.get 5 (.int .u32 xw) (by decide) rfl
        clear yq
        go_wp2_with fail
        refine (HP.out _).mono ?_
        rintro e w5 ⟨rfl, hb5⟩
        have hz5 := hb5.size
        have Y5 := Lib.hid (Y4.out.below hb5)
        have B5 := Lib.hid ((bel_trans B4.out hb5))
        skip
        have hs5 : g4 + 1 ≤ w5.heap.size := by omega
        clear yq5
        clear Y4 B4 hs4 hb5 hz5
        go_upto_region 10 with fail
        have Y6 := Lib.hid ((Y5.out.alloc (.cells #[.int .i64 t0, .int .i64 t1, .int .i64 t2, .int .i64 t3, .int .i64 t4] 28)))
        have V6 := Lib.hid ((BoxAt.newAt (w5) #[.int .i64 t0, .int .i64 t1, .int .i64 t2, .int .i64 t3, .int .i64 t4] 28 (w5.heap.size) (by first | omega | (simp; done) | (simp; omega))))
        have B6 := Lib.hid ((bel_alloc B5.out (.cells #[.int .i64 t0, .int .i64 t1, .int .i64 t2, .int .i64 t3, .int .i64 t4] 28)))
        obtain ⟨g6, hg6⟩ : ∃ g6, g6 = w5.heap.size := ⟨_, rfl⟩
        obtain ⟨W6, hW6⟩ : ∃ W6, W6 = (w5).alloc (.cells #[.int .i64 t0, .int .i64 t1, .int .i64 t2, .int .i64 t3, .int .i64 t4] 28) := ⟨_, rfl⟩
        have hs6 : g6 + 1 ≤ W6.heap.size := by rw [hW6, hg6]; simp
        rw [← hW6] at Y6 V6 B6 ⊢
        have hb6 : g4 + 1 ≤ g6 := by omega
        rw [← hg6] at V6 ⊢
        clear hg6
        clear hW6 Y5 B5 hs5
        have yq := (HRq.out.below B6.out)
        have yq0 := yq.get0 (.int .i64 xo) (by decide) rfl
        have yq1 := yq.get 1 (.int .i64 xd) (by decide) rfl
        have yq2 := yq.get 2 (.int .i64 xn) (by decide) rfl
        have yq3 := yq.get 3 (.int .i64 xm) (by decide) rfl
        have yq4 := yq.get 4 (.int .i64 xi) (by decide) rfl
        clear yq
        go_wp2_with fail
        refine (HK.out _).mono ?_
        rintro e w7 ⟨rfl, hb7⟩
        have hz7 := hb7.size
        have Y7 := Lib.hid (Y6.out.below hb7)
        have V7 := Lib.hid (V6.out.below hb7)
        have B7 := Lib.hid ((bel_trans B6.out hb7))
        skip
        have hs7 : g6 + 1 ≤ w7.heap.size := by omega
        clear yq0 yq1 yq2 yq3 yq4
        clear Y6 V6 B6 hs6 hb7 hz7
        go_wp2_with fail
        refine (lnum11_any _ _).mono ?_
        rintro e w8 ⟨rfl, rfl⟩
        go_wp2_with fail
        refine (lnum11_any _ _).mono ?_
        rintro e w9 ⟨rfl, rfl⟩
        go_wp2_with fail
        refine (lnum11_any _ _).mono ?_
        rintro e w10 ⟨rfl, rfl⟩
        have Yc0 := Y7.out.get 0 (.int .i64 t0) rfl
        have Yc1 := Y7.out.get 1 (.int .i64 t1) rfl
        have Yc2 := Y7.out.get 2 (.int .i64 t2) rfl
        have Yc3 := Y7.out.get 3 (.int .i64 t3) rfl
        have Yc4 := Y7.out.get 4 (.int .i64 t4) rfl
        have Vc0 := V7.out.get 0 (.int .i64 t0) rfl
        have Vc1 := V7.out.get 1 (.int .i64 t1) rfl
        have Vc2 := V7.out.get 2 (.int .i64 t2) rfl
        have Vc3 := V7.out.get 3 (.int .i64 t3) rfl
        have Vc4 := V7.out.get 4 (.int .i64 t4) rfl
        go_wp2
        go_roundw
        case rel => exact ⟨j + 1, by omega, by go_num, B7.out⟩
        case measure => simp [intOf] <;> omega
      rw [if_pos rfl, if_pos rfl] at HW
      rw [if_pos rfl] at HK
      cases si
      · rw [if_neg (by decide)] at HO
        have yq := (HRq.out.below Br.out)
        have yq0 := yq.get0 (.int .i64 xo) (by decide) rfl
        have yq1 := yq.get 1 (.int .i64 xd) (by decide) rfl
        have yq2 := yq.get 2 (.int .i64 xn) (by decide) rfl
        have yq3 := yq.get 3 (.int .i64 xm) (by decide) rfl
        have yq4 := yq.get 4 (.int .i64 xi) (by decide) rfl
        clear yq
        go_wp2_with fail
        refine (HW.out _).mono ?_
        rintro e w1 ⟨rfl, hb1⟩
        have hz1 := hb1.size
        have B1 := Lib.hid ((bel_trans Br.out hb1))
        skip
        have hs1 : mr ≤ w1.heap.size := by omega
        clear yq0 yq1 yq2 yq3 yq4
        clear Br hsr hb1 hz1
        have yq := (HRq.out.below B1.out)
        have yq0 := yq.get0 (.int .i64 xo) (by decide) rfl
        have yq1 := yq.get 1 (.int .i64 xd) (by decide) rfl
        have yq2 := yq.get 2 (.int .i64 xn) (by decide) rfl
        have yq3 := yq.get 3 (.int .i64 xm) (by decide) rfl
        have yq4 := yq.get 4 (.int .i64 xi) (by decide) rfl
        clear yq
        go_wp2_with fail
        refine (HR.out _).mono ?_
        rintro e w2 ⟨rfl, hb2⟩
        have hz2 := hb2.size
        have B2 := Lib.hid ((bel_trans B1.out hb2))
        skip
        have hs2 : mr ≤ w2.heap.size := by omega
        clear yq0 yq1 yq2 yq3 yq4
        clear B1 hs1 hb2 hz2
        have yq := (HRq.out.below B2.out)
        have yq0 := yq.get0 (.int .i64 xo) (by decide) rfl
        have yq1 := yq.get 1 (.int .i64 xd) (by decide) rfl
        have yq2 := yq.get 2 (.int .i64 xn) (by decide) rfl
        have yq3 := yq.get 3 (.int .i64 xm) (by decide) rfl
        have yq4 := yq.get 4 (.int .i64 xi) (by decide) rfl
        clear yq
        go_wp2_with fail
        refine (HV.out (by first | trivial | rfl) _).mono ?_
        rintro e w3 ⟨rfl, hb3⟩
        have hz3 := hb3.size
        have B3 := Lib.hid ((bel_trans B2.out hb3))
        skip
        have hs3 : mr ≤ w3.heap.size := by omega
        clear yq0 yq1 yq2 yq3 yq4
        clear B2 hs2 hb3 hz3
        have yq := (HRq.out.below B3.out)
        have yq5 := yq.get 5 (.int .u32 xw) (by decide) rfl
        clear yq
        go_wp2_with fail
        refine (HO.out _).mono ?_
        rintro e w4 ⟨rfl, hb4⟩
        have hz4 := hb4.size
        have B4 := Lib.hid ((bel_trans B3.out hb4))
        skip
        have hs4 : mr ≤ w4.heap.size := by omega
        clear yq5
        clear B3 hs3 hb4 hz4
        go_upto_region 9 with fail
        have Y5 := Lib.hid ((BoxAt.newAt (w4) #[.int .i64 t0, .int .i64 t1, .int .i64 t2, .int .i64 t3, .int .i64 t4] 28 (w4.heap.size) (by first | omega | (simp; done) | (simp; omega))))
        have B5 := Lib.hid ((bel_alloc B4.out (.cells #[.int .i64 t0, .int .i64 t1, .int .i64 t2, .int .i64 t3, .int .i64 t4] 28)))
        obtain ⟨g5, hg5⟩ : ∃ g5, g5 = w4.heap.size := ⟨_, rfl⟩
        obtain ⟨W5, hW5⟩ : ∃ W5, W5 = (w4).alloc (.cells #[.int .i64 t0, .int .i64 t1, .int .i64 t2, .int .i64 t3, .int .i64 t4] 28) := ⟨_, rfl⟩
        have hs5 : g5 + 1 ≤ W5.heap.size := by rw [hW5, hg5]; simp
        rw [← hW5] at Y5 B5 ⊢
        have hb5 : mr ≤ g5 := by omega
        rw [← hg5] at Y5 ⊢
        clear hg5
        clear hW5 B4 hs4
        have yq := (HRq.out.below B5.out)
        have yq5 := yq.get 5 (.int .u32 xw) (by decide) rfl
        clear yq
        go_wp2_with fail
        refine (HP.out _).mono ?_
        rintro e w6 ⟨rfl, hb6⟩
        have hz6 := hb6.size
        have Y6 := Lib.hid (Y5.out.below hb6)
        have B6 := Lib.hid ((bel_trans B5.out hb6))
        skip
        have hs6 : g5 + 1 ≤ w6.heap.size := by omega
        clear yq5
        clear Y5 B5 hs5 hb6 hz6
        go_upto_region 10 with fail
        have Y7 := Lib.hid ((Y6.out.alloc (.cells #[.int .i64 t0, .int .i64 t1, .int .i64 t2, .int .i64 t3, .int .i64 t4] 28)))
        have V7 := Lib.hid ((BoxAt.newAt (w6) #[.int .i64 t0, .int .i64 t1, .int .i64 t2, .int .i64 t3, .int .i64 t4] 28 (w6.heap.size) (by first | omega | (simp; done) | (simp; omega))))
        have B7 := Lib.hid ((bel_alloc B6.out (.cells #[.int .i64 t0, .int .i64 t1, .int .i64 t2, .int .i64 t3, .int .i64 t4] 28)))
        obtain ⟨g7, hg7⟩ : ∃ g7, g7 = w6.heap.size := ⟨_, rfl⟩
        obtain ⟨W7, hW7⟩ : ∃ W7, W7 = (w6).alloc (.cells #[.int .i64 t0, .int .i64 t1, .int .i64 t2, .int .i64 t3, .int .i64 t4] 28) := ⟨_, rfl⟩
        have hs7 : g7 + 1 ≤ W7.heap.size := by rw [hW7, hg7]; simp
        rw [← hW7] at Y7 V7 B7 ⊢
        have hb7 : g5 + 1 ≤ g7 := by omega
        rw [← hg7] at V7 ⊢
        clear hg7
        clear hW7 Y6 B6 hs6
        have yq := (HRq.out.below B7.out)
        have yq0 := yq.get0 (.int .i64 xo) (by decide) rfl
        have yq1 := yq.get 1 (.int .i64 xd) (by decide) rfl
        have yq2 := yq.get 2 (.int .i64 xn) (by decide) rfl
        have yq3 := yq.get 3 (.int .i64 xm) (by decide) rfl
        have yq4 := yq.get 4 (.int .i64 xi) (by decide) rfl
        clear yq
        go_wp2_with fail
        refine (HK.out _).mono ?_
        rintro e w8 ⟨rfl, hb8⟩
        have hz8 := hb8.size
        have Y8 := Lib.hid (Y7.out.below hb8)
        have V8 := Lib.hid (V7.out.below hb8)
        have B8 := Lib.hid ((bel_trans B7.out hb8))
        skip
        have hs8 : g7 + 1 ≤ w8.heap.size := by omega
        clear yq0 yq1 yq2 yq3 yq4
        clear Y7 V7 B7 hs7 hb8 hz8
        go_wp2_with fail
        refine (lnum11_any _ _).mono ?_
        rintro e w9 ⟨rfl, rfl⟩
        go_wp2_with fail
        refine (lnum11_any _ _).mono ?_
        rintro e w10 ⟨rfl, rfl⟩
        go_wp2_with fail
        refine (lnum11_any _ _).mono ?_
        rintro e w11 ⟨rfl, rfl⟩
        go_wp2_with fail
        refine (lnum11_any _ _).mono ?_
        rintro e w12 ⟨rfl, rfl⟩
        have Yc0 := Y8.out.get 0 (.int .i64 t0) rfl
        have Yc1 := Y8.out.get 1 (.int .i64 t1) rfl
        have Yc2 := Y8.out.get 2 (.int .i64 t2) rfl
        have Yc3 := Y8.out.get 3 (.int .i64 t3) rfl
        have Yc4 := Y8.out.get 4 (.int .i64 t4) rfl
        have Vc0 := V8.out.get 0 (.int .i64 t0) rfl
        have Vc1 := V8.out.get 1 (.int .i64 t1) rfl
        have Vc2 := V8.out.get 2 (.int .i64 t2) rfl
        have Vc3 := V8.out.get 3 (.int .i64 t3) rfl
        have Vc4 := V8.out.get 4 (.int .i64 t4) rfl
        go_wp2
        go_roundw
        case rel => exact ⟨j + 1, by omega, by go_num, B8.out⟩
        case measure => simp [intOf] <;> omega
      rw [if_pos rfl] at HO
      have yq := (HRq.out.below Br.out)
      have yq0 := yq.get0 (.int .i64 xo) (by decide) rfl
      have yq1 := yq.get 1 (.int .i64 xd) (by decide) rfl
      have yq2 := yq.get 2 (.int .i64 xn) (by decide) rfl
      have yq3 := yq.get 3 (.int .i64 xm) (by decide) rfl
      have yq4 := yq.get 4 (.int .i64 xi) (by decide) rfl
      clear yq
      go_wp2_with fail
      refine (HW.out _).mono ?_
      rintro e w1 ⟨rfl, hb1⟩
      have hz1 := hb1.size
      have B1 := Lib.hid ((bel_trans Br.out hb1))
      skip
      have hs1 : mr ≤ w1.heap.size := by omega
      clear yq0 yq1 yq2 yq3 yq4
      clear Br hsr hb1 hz1
      have yq := (HRq.out.below B1.out)
      have yq0 := yq.get0 (.int .i64 xo) (by decide) rfl
      have yq1 := yq.get 1 (.int .i64 xd) (by decide) rfl
      have yq2 := yq.get 2 (.int .i64 xn) (by decide) rfl
      have yq3 := yq.get 3 (.int .i64 xm) (by decide) rfl
      have yq4 := yq.get 4 (.int .i64 xi) (by decide) rfl
      clear yq
      go_wp2_with fail
      refine (HR.out _).mono ?_
      rintro e w2 ⟨rfl, hb2⟩
      have hz2 := hb2.size
      have B2 := Lib.hid ((bel_trans B1.out hb2))
      skip
      have hs2 : mr ≤ w2.heap.size := by omega
      clear yq0 yq1 yq2 yq3 yq4
      clear B1 hs1 hb2 hz2
      have yq := (HRq.out.below B2.out)
      have yq0 := yq.get0 (.int .i64 xo) (by decide) rfl
      have yq1 := yq.get 1 (.int .i64 xd) (by decide) rfl
      have yq2 := yq.get 2 (.int .i64 xn) (by decide) rfl
      have yq3 := yq.get 3 (.int .i64 xm) (by decide) rfl
      have yq4 := yq.get 4 (.int .i64 xi) (by decide) rfl
      clear yq
      go_wp2_with fail
      refine (HV.out (by first | trivial | rfl) _).mono ?_
      rintro e w3 ⟨rfl, hb3⟩
      have hz3 := hb3.size
      have B3 := Lib.hid ((bel_trans B2.out hb3))
      skip
      have hs3 : mr ≤ w3.heap.size := by omega
      clear yq0 yq1 yq2 yq3 yq4
      clear B2 hs2 hb3 hz3
      have yq := (HRq.out.below B3.out)
      have yq5 := yq.get 5 (.int .u32 xw) (by decide) rfl
      clear yq
      go_wp2_with fail
      refine (HO.out _).mono ?_
      rintro e w4 ⟨rfl, hb4⟩
      have hz4 := hb4.size
      have B4 := Lib.hid ((bel_trans B3.out hb4))
      skip
      have hs4 : mr ≤ w4.heap.size := by omega
      clear yq5
      clear B3 hs3 hb4 hz4
      go_upto_region 9 with fail
      have Y5 := Lib.hid ((BoxAt.newAt (w4) #[.int .i64 t0, .int .i64 t1, .int .i64 t2, .int .i64 t3, .int .i64 t4] 28 (w4.heap.size) (by first | omega | (simp; done) | (simp; omega))))
      have B5 := Lib.hid ((bel_alloc B4.out (.cells #[.int .i64 t0, .int .i64 t1, .int .i64 t2, .int .i64 t3, .int .i64 t4] 28)))
      obtain ⟨g5, hg5⟩ : ∃ g5, g5 = w4.heap.size := ⟨_, rfl⟩
      obtain ⟨W5, hW5⟩ : ∃ W5, W5 = (w4).alloc (.cells #[.int .i64 t0, .int .i64 t1, .int .i64 t2, .int .i64 t3, .int .i64 t4] 28) := ⟨_, rfl⟩
      have hs5 : g5 + 1 ≤ W5.heap.size := by rw [hW5, hg5]; simp
      rw [← hW5] at Y5 B5 ⊢
      have hb5 : mr ≤ g5 := by omega
      rw [← hg5] at Y5 ⊢
      clear hg5
      clear hW5 B4 hs4
      have yq := (HRq.out.below B5.out)
      have yq5 := yq.get 5 (.int .u32 xw) (by decide) rfl
      clear yq
      go_wp2_with fail
      refine (HP.out _).mono ?_
      rintro e w6 ⟨rfl, hb6⟩
      have hz6 := hb6.size
      have Y6 := Lib.hid (Y5.out.below hb6)
      have B6 := Lib.hid ((bel_trans B5.out hb6))
      skip
      have hs6 : g5 + 1 ≤ w6.heap.size := by omega
      clear yq5
      clear Y5 B5 hs5 hb6 hz6
      go_upto_region 10 with fail
      have Y7 := Lib.hid ((Y6.out.alloc (.cells #[.int .i64 t0, .int .i64 t1, .int .i64 t2, .int .i64 t3, .int .i64 t4] 28)))
      have V7 := Lib.hid ((BoxAt.newAt (w6) #[.int .i64 t0, .int .i64 t1, .int .i64 t2, .int .i64 t3, .int .i64 t4] 28 (w6.heap.size) (by first | omega | (simp; done) | (simp; omega))))
      have B7 := Lib.hid ((bel_alloc B6.out (.cells #[.int .i64 t0, .int .i64 t1, .int .i64 t2, .int .i64 t3, .int .i64 t4] 28)))
      obtain ⟨g7, hg7⟩ : ∃ g7, g7 = w6.heap.size := ⟨_, rfl⟩
      obtain ⟨W7, hW7⟩ : ∃ W7, W7 = (w6).alloc (.cells #[.int .i64 t0, .int .i64 t1, .int .i64 t2, .int .i64 t3, .int .i64 t4] 28) := ⟨_, rfl⟩
      have hs7 : g7 + 1 ≤ W7.heap.size := by rw [hW7, hg7]; simp
      rw [← hW7] at Y7 V7 B7 ⊢
      have hb7 : g5 + 1 ≤ g7 := by omega
      rw [← hg7] at V7 ⊢
      clear hg7
      clear hW7 Y6 B6 hs6
      have yq := (HRq.out.below B7.out)
      have yq0 := yq.get0 (.int .i64 xo) (by decide) rfl
      have yq1 := yq.get 1 (.int .i64 xd) (by decide) rfl
      have yq2 := yq.get 2 (.int .i64 xn) (by decide) rfl
      have yq3 := yq.get 3 (.int .i64 xm) (by decide) rfl
      have yq4 := yq.get 4 (.int .i64 xi) (by decide) rfl
      clear yq
      go_wp2_with fail
      refine (HK.out _).mono ?_
      rintro e w8 ⟨rfl, hb8⟩
      have hz8 := hb8.size
      have Y8 := Lib.hid (Y7.out.below hb8)
      have V8 := Lib.hid (V7.out.below hb8)
      have B8 := Lib.hid ((bel_trans B7.out hb8))
      skip
      have hs8 : g7 + 1 ≤ w8.heap.size := by omega
      clear yq0 yq1 yq2 yq3 yq4
      clear Y7 V7 B7 hs7 hb8 hz8
      go_wp2_with fail
      refine (lnum11_any _ _).mono ?_
      rintro e w9 ⟨rfl, rfl⟩
      go_wp2_with fail
      refine (lnum11_any _ _).mono ?_
      rintro e w10 ⟨rfl, rfl⟩
      go_wp2_with fail
      refine (lnum11_any _ _).mono ?_
      rintro e w11 ⟨rfl, rfl⟩
      have Yc0 := Y8.out.get 0 (.int .i64 t0) rfl
      have Yc1 := Y8.out.get 1 (.int .i64 t1) rfl
      have Yc2 := Y8.out.get 2 (.int .i64 t2) rfl
      have Yc3 := Y8.out.get 3 (.int .i64 t3) rfl
      have Yc4 := Y8.out.get 4 (.int .i64 t4) rfl
      have Vc0 := V8.out.get 0 (.int .i64 t0) rfl
      have Vc1 := V8.out.get 1 (.int .i64 t1) rfl
      have Vc2 := V8.out.get 2 (.int .i64 t2) rfl
      have Vc3 := V8.out.get 3 (.int .i64 t3) rfl
      have Vc4 := V8.out.get 4 (.int .i64 t4) rfl
      go_wp2
      go_roundw
      case rel => exact ⟨j + 1, by omega, by go_num, B8.out⟩
      case measure => simp [intOf] <;> omega
    · go_wp2_with fail
      refine (wakes11_any _).mono ?_
      rintro e w1 ⟨rfl, hb1⟩
      have hz1 := hb1.size
      have B1 := Lib.hid ((bel_trans Br.out hb1))
      skip
      have hs1 : mr ≤ w1.heap.size := by omega
      clear Br hsr hb1 hz1
      go_wp2
      go_ret
      exact ⟨rfl, B1.out⟩
theorem op11_empty (a : Option Addr) (cap : Nat) (k : Int) (w : World) :
    Calls Try.prog 30 #[.slice a 0 cap, .int .i64 k] w fun e w' => e = .returned (.bool true) ∧ Below w.heap.size w w' := by
  go_enter Try.func30, Try.ntmps30
  go_wp2
  refine wp_loop_rounds 1 ?_
  rw [rounds_succ]
  go_wp2_with (go_at_call 28; refine (wakes11_any _).mono ?_; rintro e w' ⟨rfl, hb⟩)
  go_ret
  exact ⟨rfl, hb⟩
theorem words11_empty (a : Option Addr) (cap : Nat) (w : World) :
    Calls Try.prog 3 #[.slice a 0 cap] w fun e w' => e = .returned (.bool true) ∧ Below w.heap.size w w' := by
  go_enter Try.func3, Try.ntmps3
  go_wp2
  refine wp_loop_rounds 1 ?_
  rw [rounds_succ]
  go_wp2_with (go_at_call 28; refine (wakes11_any _).mono ?_; rintro e w' ⟨rfl, hb⟩)
  go_ret
  exact ⟨rfl, hb⟩
end Go.Proofs.Ytgjmladfeelcnaa
