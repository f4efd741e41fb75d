/- Stage 11: the walk of InsnBack. -/
import Derived.Test.YtgjmladfeelcnaaGf
import Derived.Test.YtgjmladfeelcnaaRefs
set_option linter.all false
namespace Go.Proofs.Ytgjmladfeelcnaa
open Go.ChangeShapes Go.WideShapes Go.ChangeAt Go.RowKit Go.Deep

theorem RowAt.drew {W : World} {b o N : Nat} {cs : Array Value} (h : RowAt W b o N cs) : RowAt W.drew b o N cs := ⟨h.lt, h.c⟩
theorem xor32_ne (a b : Int) (a0 : 0 ≤ a) (a1 : a ≤ 4294967295) (b0 : 0 < b) (b1 : b ≤ 4294967295) : bits .xor .u32 a b ≠ a := by
  rw [u32_xor a b a0 (by omega) (by omega) (by omega)]
  intro h
  have h1 : a.toNat ^^^ b.toNat = a.toNat := by omega
  have h2 : a.toNat ^^^ (a.toNat ^^^ b.toNat) = a.toNat ^^^ a.toNat := by rw [h1]
  rw [← Nat.xor_assoc, Nat.xor_self, Nat.zero_xor] at h2
  omega
theorem pow32_bd (p : Nat) (h : p < 32) : (0 : Int) < 2 ^ p ∧ (2 : Int) ^ p ≤ 2147483648 := by
  have h1 : (2 : Int) ^ p = ((2 ^ p : Nat) : Int) := (Int.natCast_pow 2 p).symm
  have h2 : 0 < 2 ^ p := Nat.pow_pos (by decide)
  have h3 : 2 ^ p ≤ 2 ^ 31 := Nat.pow_le_pow_right (by decide) (by omega)
  omega
theorem within32 (w : World) :
    Calls Try.prog 29 #[.int .i64 3, .int .i64 2] w fun e w' => e = .returned (.int .i64 1) ∧ w = w' :=
  (within_any 3 2 w (by decide) (by decide)).mono fun _ _ h => ⟨h.1, by first | exact h.2 | exact h.2.symm⟩
set_option maxRecDepth 100000 in
set_option maxHeartbeats 3200000 in
theorem back11_walk (b o l c : Nat) (w : World) (q : Nat → Q11) (hl : l ≤ 9223372036854775807) (hc : ∀ i, i < l → RowAt w b (o + i * 6) 6 (ask11V (q i)) ∧ (0 ≤ (q i).w ∧ (q i).w ≤ 4294967295)) :
    Calls Try.prog 4 #[.slice (some ⟨b, o, none⟩) l c] w fun e w' => e = .returned (.bool true) ∧ Below w.heap.size w w' := by
  have HC := Lib.hid hc
  clear hc
  have htw : w.heap.size ≤ w.heap.size := Nat.le_refl _
  have B0 := Lib.hid (Below.refl w.heap.size w)
  go_enter Try.func4, Try.ntmps4
  go_wp2
  go_loopw [3] (fun i wr => ∃ (j : Nat), j ≤ l ∧ i = .int .i64 j ∧ Hid (Below w.heap.size w wr)) (fun i _ => l - (intOf i).toNat)
  case atStart => exact ⟨0, by omega, rfl, B0.out⟩
  case round =>
    clear B0
    obtain ⟨j, hkj, rfl, Br⟩ := hrel
    obtain ⟨mr, hmr⟩ : ∃ mr, mr = wr.heap.size := ⟨_, rfl⟩
    have hgwr : w.heap.size ≤ mr := by rw [hmr]; exact Br.out.size
    have hsr : mr ≤ wr.heap.size := by omega
    clear hmr
    by_cases hltj : j < l
    · have ik0j : (0 : Int) ≤ (j : Int) := by omega
      have ik1j : (j : Int) < (l : Int) := by omega
      have ikwj : IntKind.i64.wrap ((j : Int) + 1) = (j : Int) + 1 := IntWalk.i64_in _ (by omega)
      by_cases hlij : j < 20
      rotate_left
      · have dlj : decide ((j : Int) < 20) = false := decide_eq_false (by omega)
        go_wp2_with fail
        refine (within32 _).mono ?_
        rintro e w1 ⟨rfl, rfl⟩
        go_wp2_with fail
        refine (wakes11_any _).mono ?_
        rintro e w2 ⟨rfl, hb2⟩
        have hz2 := hb2.size
        have B2 := Lib.hid ((bel_trans Br.out hb2))
        skip
        have hs2 : mr ≤ w2.heap.size := by omega
        clear Br hsr hb2 hz2
        go_wp2
        go_ret
        exact ⟨rfl, B2.out⟩
      have dlj : decide ((j : Int) < 20) = true := decide_eq_true (by omega)
      have HRq0 := HC.out j hltj
      have HRq := Lib.hid HRq0.1
      clear HRq0
      generalize q j = qj at *
      obtain ⟨⟨xo, xd, xn, xm, xi⟩, xw⟩ := qj
      unfold ask11V at HRq
      simp only at HRq
      have HW := Lib.hid (fun W => inWordC ⟨xo, xd, xn, xm, xi⟩ W)
      cases hm : mayI ⟨xo, xd, xn, xm, xi⟩
      · rw [hm, if_neg (by decide), if_neg (by decide)] at HW
        unfold insV at HW
        simp only at HW
        clear hm
        have yq := (HRq.out.below Br.out)
        have yq0 := yq.get0 (.int .i64 xo) (by decide) rfl
        have yq1 := yq.get 1 (.int .i64 xd) (by decide) rfl
        have yq2 := yq.get 2 (.int .i64 xn) (by decide) rfl
        have yq3 := yq.get 3 (.int .i64 xm) (by decide) rfl
        have yq4 := yq.get 4 (.int .i64 xi) (by decide) rfl
        clear yq
        go_wp2_with fail
        refine (HW.out _).mono ?_
        rintro e w1 ⟨rfl, hb1⟩
        have hz1 := hb1.size
        have B1 := Lib.hid ((bel_trans Br.out hb1))
        skip
        have hs1 : mr ≤ w1.heap.size := by omega
        clear yq0 yq1 yq2 yq3 yq4
        clear Br hsr hb1 hz1
        go_wp2_with fail
        refine (lnum11_any _ _).mono ?_
        rintro e w2 ⟨rfl, rfl⟩
        go_wp2
        go_roundw
        case rel => exact ⟨j + 1, by omega, by go_num, B1.out⟩
        case measure => simp [intOf] <;> omega
      have hwb := wordI_bd hm
      have HO := Lib.hid (fun W => inOfC (wordI ⟨xo, xd, xn, xm, xi⟩) hwb.1 hwb.2 W)
      rw [isI_word _ hm, if_pos rfl, ofI_word _ hm] at HO
      rw [hm, if_pos rfl, if_pos rfl] at HW
      have HNE := Lib.hid (fun (t : Ins) (ht : wordI t ≠ wordI ⟨xo, xd, xn, xm, xi⟩) => eqIn_no (a := t) (b := ⟨xo, xd, xn, xm, xi⟩) (fun h => ht (by rw [h])))
      generalize wordI ⟨xo, xd, xn, xm, xi⟩ = wt at *
      unfold insV at HW HO
      simp only at HW HO
      have heq : eqIn ⟨xo, xd, xn, xm, xi⟩ ⟨xo, xd, xn, xm, xi⟩ = true := eqIn_self _
      obtain ⟨hwt0, hwt1⟩ := hwb
      clear hm
      have yq := (HRq.out.below Br.out)
      have yq0 := yq.get0 (.int .i64 xo) (by decide) rfl
      have yq1 := yq.get 1 (.int .i64 xd) (by decide) rfl
      have yq2 := yq.get 2 (.int .i64 xn) (by decide) rfl
      have yq3 := yq.get 3 (.int .i64 xm) (by decide) rfl
      have yq4 := yq.get 4 (.int .i64 xi) (by decide) rfl
      clear yq
      go_wp2_with fail
      refine (HW.out _).mono ?_
      rintro e w1 ⟨rfl, hb1⟩
      have hz1 := hb1.size
      have B1 := Lib.hid ((bel_trans Br.out hb1))
      skip
      have hs1 : mr ≤ w1.heap.size := by omega
      clear yq0 yq1 yq2 yq3 yq4
      clear Br hsr hb1 hz1
      go_wp2_with fail
      refine (lnum11_any _ _).mono ?_
      rintro e w2 ⟨rfl, rfl⟩
      go_wp2_with fail
      refine (HO.out _).mono ?_
      rintro e w3 ⟨rfl, hb3⟩
      have hz3 := hb3.size
      have B3 := Lib.hid ((bel_trans B1.out hb3))
      skip
      have hs3 : mr ≤ w3.heap.size := by omega
      clear B1 hs1 hb3 hz3
      go_upto_region 7 with fail
      have X4 := Lib.hid ((BoxAt.newAt (w3) #[.int .i64 xo, .int .i64 xd, .int .i64 xn, .int .i64 xm, .int .i64 xi] 28 (w3.heap.size) (by first | omega | (simp; done) | (simp; omega))))
      have B4 := Lib.hid ((bel_alloc B3.out (.cells #[.int .i64 xo, .int .i64 xd, .int .i64 xn, .int .i64 xm, .int .i64 xi] 28)))
      obtain ⟨g4, hg4⟩ : ∃ g4, g4 = w3.heap.size := ⟨_, rfl⟩
      obtain ⟨W4, hW4⟩ : ∃ W4, W4 = (w3).alloc (.cells #[.int .i64 xo, .int .i64 xd, .int .i64 xn, .int .i64 xm, .int .i64 xi] 28) := ⟨_, rfl⟩
      have hs4 : g4 + 1 ≤ W4.heap.size := by rw [hW4, hg4]; simp
      rw [← hW4] at X4 B4 ⊢
      have hb4 : mr ≤ g4 := by omega
      rw [← hg4] at X4 ⊢
      clear hg4
      clear hW4 B3 hs3
      refine wp_region_held_drew (S := (fun w' => BoxAt w' (g4) #[.int .i64 xo, .int .i64 xd, .int .i64 xn, .int .i64 xm, .int .i64 xi] 28 ∧ RowAt w' (b) (o + j * 6) 6 #[.int .i64 xo, .int .i64 xd, .int .i64 xn, .int .i64 xm, .int .i64 xi, .int .u32 xw])) (by kernel_rfl) ⟨X4.out.drew, (HRq.out.below B4.out).drew⟩ (fun hS => ?_)
      refine tkR 0 40 (v := .int .i64 0) rfl hS (fun _ _ => by kernel_rfl) ?_
      try simp only [Act.put, List.setIfInBounds_toArray, List.set_cons_zero, List.set_cons_succ]
      refine wpAnyH_ready (rs := [1]) (by kernel_rfl) (by simp) ?_
      refine AllReadyH.cons (o := ⟨some 41, _, _, _, _, _⟩) rfl (fun K hK => ?_) AllReadyH.nil
      go_simp
      refine (lnum11_any _ _).mono ?_
      rintro e w5 ⟨rfl, rfl⟩
      refine hK.out _ _ ?_ (fun hS' => ?_)
      · exact hS
      clear hK K hS
      have hS := hS'
      clear hS'
      try simp only [Act.put, List.setIfInBounds_toArray, List.set_cons_zero, List.set_cons_succ]
      try simp only [Act.put, List.setIfInBounds_toArray, List.set_cons_zero, List.set_cons_succ]
      refine wpAnyH_take (i := 2) (oi := ⟨some 42, _, _, _, _, _⟩) (v := ?_) rfl (by kernel_rfl) (by kernel_rfl) (by kernel_rfl) (fun _ _ _ h => h) (Or.inl ⟨by rfl, ?_⟩) hS ?_
      rotate_left
      · (intro w' hSw; clear hSw; go_simp; try with_reducible rfl)
      simp only [Act.put, List.setIfInBounds_toArray, List.set_cons_zero, List.set_cons_succ]
      refine tkR 3 43 (v := .bool false) rfl hS (fun _ _ => by kernel_rfl) ?_
      try simp only [Act.put, List.setIfInBounds_toArray, List.set_cons_zero, List.set_cons_succ]
      refine wpAnyH_take (i := 4) (oi := ⟨some 44, _, _, _, _, _⟩) (v := ?_) rfl (by kernel_rfl) (by kernel_rfl) (by kernel_rfl) (fun _ _ _ h => h) (Or.inl ⟨by rfl, ?_⟩) hS ?_
      rotate_left
      · (intro w' hSw; have c0_0 := (hSw.1).get 0 (.int .i64 xo) rfl; have c0_1 := (hSw.1).get 1 (.int .i64 xd) rfl; have c0_2 := (hSw.1).get 2 (.int .i64 xn) rfl; have c0_3 := (hSw.1).get 3 (.int .i64 xm) rfl; have c0_4 := (hSw.1).get 4 (.int .i64 xi) rfl; clear hSw; go_simp; try with_reducible rfl)
      simp only [Act.put, List.setIfInBounds_toArray, List.set_cons_zero, List.set_cons_succ]
      try simp only [Act.put, List.setIfInBounds_toArray, List.set_cons_zero, List.set_cons_succ]
      refine wpAnyH_take (i := 5) (oi := ⟨some 45, _, _, _, _, _⟩) (v := ?_) rfl (by kernel_rfl) (by kernel_rfl) (by kernel_rfl) (fun _ _ _ h => h) (Or.inl ⟨by rfl, ?_⟩) hS ?_
      rotate_left
      · (intro w' hSw; clear hSw; go_simp; try with_reducible rfl)
      simp only [Act.put, List.setIfInBounds_toArray, List.set_cons_zero, List.set_cons_succ]
      try simp only [Act.put, List.setIfInBounds_toArray, List.set_cons_zero, List.set_cons_succ]
      refine wpAnyH_take (i := 6) (oi := ⟨some 46, _, _, _, _, _⟩) (v := ?_) rfl (by kernel_rfl) (by kernel_rfl) (by kernel_rfl) (fun _ _ _ h => h) (Or.inl ⟨by rfl, ?_⟩) hS ?_
      rotate_left
      · (intro w' hSw; clear hSw; go_simp; try with_reducible rfl)
      simp only [Act.put, List.setIfInBounds_toArray, List.set_cons_zero, List.set_cons_succ]
      try simp only [Act.put, List.setIfInBounds_toArray, List.set_cons_zero, List.set_cons_succ]
      refine wpAnyH_take (i := 7) (oi := ⟨some 47, _, _, _, _, _⟩) (v := ?_) rfl (by kernel_rfl) (by kernel_rfl) (by kernel_rfl) (fun _ _ _ h => h) (Or.inl ⟨by rfl, ?_⟩) hS ?_
      rotate_left
      · (intro w' hSw; clear hSw; go_simp; try with_reducible rfl)
      simp only [Act.put, List.setIfInBounds_toArray, List.set_cons_zero, List.set_cons_succ]
      try simp only [Act.put, List.setIfInBounds_toArray, List.set_cons_zero, List.set_cons_succ]
      refine wpAnyH_take (i := 8) (oi := ⟨some 48, _, _, _, _, _⟩) (v := ?_) rfl (by kernel_rfl) (by kernel_rfl) (by kernel_rfl) (fun _ _ _ h => h) (Or.inl ⟨by rfl, ?_⟩) hS ?_
      rotate_left
      · (intro w' hSw; clear hSw; go_simp; try with_reducible rfl)
      simp only [Act.put, List.setIfInBounds_toArray, List.set_cons_zero, List.set_cons_succ]
      try simp only [Act.put, List.setIfInBounds_toArray, List.set_cons_zero, List.set_cons_succ]
      refine wpAnyH_take (i := 9) (oi := ⟨some 49, _, _, _, _, _⟩) (v := ?_) rfl (by kernel_rfl) (by kernel_rfl) (by kernel_rfl) (fun _ _ _ h => h) (Or.inl ⟨by rfl, ?_⟩) hS ?_
      rotate_left
      · (intro w' hSw; have c1_0 := (hSw.2).get0 (.int .i64 xo) (by decide) rfl; have c1_1 := (hSw.2).get 1 (.int .i64 xd) (by decide) rfl; have c1_2 := (hSw.2).get 2 (.int .i64 xn) (by decide) rfl; have c1_3 := (hSw.2).get 3 (.int .i64 xm) (by decide) rfl; have c1_4 := (hSw.2).get 4 (.int .i64 xi) (by decide) rfl; clear hSw; go_simp; try with_reducible rfl)
      simp only [Act.put, List.setIfInBounds_toArray, List.set_cons_zero, List.set_cons_succ]
      try simp only [Act.put, List.setIfInBounds_toArray, List.set_cons_zero, List.set_cons_succ]
      refine wpAnyH_take (i := 10) (oi := ⟨some 50, _, _, _, _, _⟩) (v := ?_) rfl (by kernel_rfl) (by kernel_rfl) (by kernel_rfl) (fun _ _ _ h => h) (Or.inl ⟨by rfl, ?_⟩) hS ?_
      rotate_left
      · (intro w' hSw; clear hSw; go_simp; try with_reducible rfl)
      simp only [Act.put, List.setIfInBounds_toArray, List.set_cons_zero, List.set_cons_succ]
      try simp only [Act.put, List.setIfInBounds_toArray, List.set_cons_zero, List.set_cons_succ]
      refine wpAnyH_take (i := 11) (oi := ⟨some 51, _, _, _, _, _⟩) (v := ?_) rfl (by kernel_rfl) (by kernel_rfl) (by kernel_rfl) (fun _ _ _ h => h) (Or.inl ⟨by rfl, ?_⟩) hS ?_
      rotate_left
      · (intro w' hSw; clear hSw; go_simp; try with_reducible rfl)
      simp only [Act.put, List.setIfInBounds_toArray, List.set_cons_zero, List.set_cons_succ]
      refine wpAnyH_done (by kernel_rfl) ?_ _
      try simp only [Act.put, List.setIfInBounds_toArray, List.set_cons_zero, List.set_cons_succ]
      have X6 := Lib.hid ((X4.out.drew))
      have B6 := Lib.hid ((Below.drew B4.out))
      obtain ⟨W6, hW6⟩ : ∃ W6, W6 = (W4).drew := ⟨_, rfl⟩
      have hs6 : g4 + 1 ≤ W6.heap.size := by rw [hW6]; first | exact hs4 | omega | (simp; omega)
      rw [← hW6] at X6 B6 ⊢
      clear hW6 X4 B4 hs4
      go_wp2
      go_loopw [8] (fun i wr => ∃ (p : Nat), p ≤ 32 ∧ i = .int .i64 p ∧ Hid (BoxAt wr (g4) #[.int .i64 xo, .int .i64 xd, .int .i64 xn, .int .i64 xm, .int .i64 xi] 28) ∧ Hid (Below w.heap.size w wr)) (fun i _ => 32 - (intOf i).toNat)
      case atStart => exact ⟨0, by omega, rfl, X6.out, B6.out⟩
      case round =>
        clear X6 B6
        obtain ⟨p, hkp, rfl, Xs, Bs⟩ := hrel
        obtain ⟨ms, hms⟩ : ∃ ms, ms = wr.heap.size := ⟨_, rfl⟩
        have hgXs : g4 + 1 ≤ ms := by rw [hms]; exact Xs.out.lt
        have hgws : w.heap.size ≤ ms := by rw [hms]; exact Bs.out.size
        have hss : ms ≤ wr.heap.size := by omega
        clear hms
        by_cases hltp : p < 32
        · have ik0p : (0 : Int) ≤ (p : Int) := by omega
          have ik1p : (p : Int) < (32 : Int) := by omega
          have ikwp : IntKind.i64.wrap ((p : Int) + 1) = (p : Int) + 1 := IntWalk.i64_in _ (by omega)
          have hpw := pow32_bd p hltp
          have hp0 : (0 : Int) ≤ (p : Int) := by omega
          obtain ⟨b2, hb2⟩ : ∃ b2 : Int, 2 ^ p = b2 := ⟨_, rfl⟩
          rw [hb2] at hpw
          have hbw : IntKind.u32.wrap b2 = b2 := by rw [IntKind.wrap_u32']; omega
          obtain ⟨v, hv⟩ : ∃ v, bits .xor .u32 wt b2 = v := ⟨_, rfl⟩
          have hvn := xor32_ne wt b2 hwt0 hwt1 hpw.1 (by omega)
          have hvb := bits32_bd .xor wt b2 (by simp) hwt0 hwt1 (by omega) (by omega)
          rw [hv] at hvn hvb
          have HVN := Lib.hid hvn
          have HO2 := Lib.hid (fun W => inOfC v hvb.1 hvb.2 W)
          clear hvn hvb hpw
          cases hs : isI v
          · rw [hs, if_neg (by decide)] at HO2
            generalize ofI v = tt at HO2
            obtain ⟨t0, t1, t2, t3, t4⟩ := tt
            unfold insV at HO2
            simp only at HO2
            clear hs
            go_wp2_with fail
            refine (HO2.out _).mono ?_
            rintro e w7 ⟨rfl, hb7⟩
            have hz7 := hb7.size
            have X7 := Lib.hid (Xs.out.below hb7)
            have B7 := Lib.hid ((bel_trans Bs.out hb7))
            skip
            have hs7 : ms ≤ w7.heap.size := by omega
            clear Xs Bs hss hb7 hz7
            go_upto_region 13 with fail
            have X8 := Lib.hid ((X7.out.alloc (.cells #[.int .i64 t0, .int .i64 t1, .int .i64 t2, .int .i64 t3, .int .i64 t4] 28)))
            have Y8 := Lib.hid ((BoxAt.newAt (w7) #[.int .i64 t0, .int .i64 t1, .int .i64 t2, .int .i64 t3, .int .i64 t4] 28 (w7.heap.size) (by first | omega | (simp; done) | (simp; omega))))
            have B8 := Lib.hid ((bel_alloc B7.out (.cells #[.int .i64 t0, .int .i64 t1, .int .i64 t2, .int .i64 t3, .int .i64 t4] 28)))
            obtain ⟨g8, hg8⟩ : ∃ g8, g8 = w7.heap.size := ⟨_, rfl⟩
            obtain ⟨W8, hW8⟩ : ∃ W8, W8 = (w7).alloc (.cells #[.int .i64 t0, .int .i64 t1, .int .i64 t2, .int .i64 t3, .int .i64 t4] 28) := ⟨_, rfl⟩
            have hs8 : g8 + 1 ≤ W8.heap.size := by rw [hW8, hg8]; simp
            rw [← hW8] at X8 Y8 B8 ⊢
            have hb8 : ms ≤ g8 := by omega
            rw [← hg8] at Y8 ⊢
            clear hg8
            clear hW8 X7 B7 hs7
            go_wp2_with fail
            refine (lnum11_any _ _).mono ?_
            rintro e w9 ⟨rfl, rfl⟩
            go_wp2
            go_roundw
            case rel => exact ⟨p + 1, by omega, by go_num, X8.out, B8.out⟩
            case measure => simp [intOf] <;> omega
          rw [hs, if_pos rfl] at HO2
          have HW2 := Lib.hid (fun W => inWordC (ofI v) W)
          rw [ofI_may hs, if_pos rfl, if_pos rfl, word_ofI hs] at HW2
          have heq2 := HNE.out (ofI v) (by rw [word_ofI hs]; exact HVN.out)
          generalize ofI v = tt at *
          obtain ⟨t0, t1, t2, t3, t4⟩ := tt
          unfold insV at HO2 HW2
          simp only at HO2 HW2
          clear hs
          go_wp2_with fail
          refine (HO2.out _).mono ?_
          rintro e w7 ⟨rfl, hb7⟩
          have hz7 := hb7.size
          have X7 := Lib.hid (Xs.out.below hb7)
          have B7 := Lib.hid ((bel_trans Bs.out hb7))
          skip
          have hs7 : ms ≤ w7.heap.size := by omega
          clear Xs Bs hss hb7 hz7
          go_upto_region 13 with fail
          have X8 := Lib.hid ((X7.out.alloc (.cells #[.int .i64 t0, .int .i64 t1, .int .i64 t2, .int .i64 t3, .int .i64 t4] 28)))
          have Y8 := Lib.hid ((BoxAt.newAt (w7) #[.int .i64 t0, .int .i64 t1, .int .i64 t2, .int .i64 t3, .int .i64 t4] 28 (w7.heap.size) (by first | omega | (simp; done) | (simp; omega))))
          have B8 := Lib.hid ((bel_alloc B7.out (.cells #[.int .i64 t0, .int .i64 t1, .int .i64 t2, .int .i64 t3, .int .i64 t4] 28)))
          obtain ⟨g8, hg8⟩ : ∃ g8, g8 = w7.heap.size := ⟨_, rfl⟩
          obtain ⟨W8, hW8⟩ : ∃ W8, W8 = (w7).alloc (.cells #[.int .i64 t0, .int .i64 t1, .int .i64 t2, .int .i64 t3, .int .i64 t4] 28) := ⟨_, rfl⟩
          have hs8 : g8 + 1 ≤ W8.heap.size := by rw [hW8, hg8]; simp
          rw [← hW8] at X8 Y8 B8 ⊢
          have hb8 : ms ≤ g8 := by omega
          rw [← hg8] at Y8 ⊢
          clear hg8
          clear hW8 X7 B7 hs7
          go_wp2_with fail
          refine (lnum11_any _ _).mono ?_
          rintro e w9 ⟨rfl, rfl⟩
          have Yc0 := Y8.out.get 0 (.int .i64 t0) rfl
          have Yc1 := Y8.out.get 1 (.int .i64 t1) rfl
          have Yc2 := Y8.out.get 2 (.int .i64 t2) rfl
          have Yc3 := Y8.out.get 3 (.int .i64 t3) rfl
          have Yc4 := Y8.out.get 4 (.int .i64 t4) rfl
          go_wp2_with fail
          refine (HW2.out _).mono ?_
          rintro e w10 ⟨rfl, hb10⟩
          have hz10 := hb10.size
          have X10 := Lib.hid (X8.out.below hb10)
          have Y10 := Lib.hid (Y8.out.below hb10)
          have B10 := Lib.hid ((bel_trans B8.out hb10))
          skip
          have hs10 : g8 + 1 ≤ w10.heap.size := by omega
          clear Yc0 Yc1 Yc2 Yc3 Yc4
          clear X8 Y8 B8 hs8 hb10 hz10
          have Yc0 := Y10.out.get 0 (.int .i64 t0) rfl
          have Yc1 := Y10.out.get 1 (.int .i64 t1) rfl
          have Yc2 := Y10.out.get 2 (.int .i64 t2) rfl
          have Yc3 := Y10.out.get 3 (.int .i64 t3) rfl
          have Yc4 := Y10.out.get 4 (.int .i64 t4) rfl
          have Xc0 := X10.out.get 0 (.int .i64 xo) rfl
          have Xc1 := X10.out.get 1 (.int .i64 xd) rfl
          have Xc2 := X10.out.get 2 (.int .i64 xn) rfl
          have Xc3 := X10.out.get 3 (.int .i64 xm) rfl
          have Xc4 := X10.out.get 4 (.int .i64 xi) rfl
          go_wp2_with fail
          refine (lnum11_any _ _).mono ?_
          rintro e w11 ⟨rfl, rfl⟩
          go_wp2
          go_roundw
          case rel => exact ⟨p + 1, by omega, by go_num, X10.out, B10.out⟩
          case measure => simp [intOf] <;> omega
        · go_wp2
          go_roundw
          case rel => exact ⟨j + 1, by omega, by go_num, Bs.out⟩
          case measure => simp [intOf] <;> omega
    · go_wp2_with fail
      refine (within32 _).mono ?_
      rintro e w1 ⟨rfl, rfl⟩
      go_wp2_with fail
      refine (wakes11_any _).mono ?_
      rintro e w2 ⟨rfl, hb2⟩
      have hz2 := hb2.size
      have B2 := Lib.hid ((bel_trans Br.out hb2))
      skip
      have hs2 : mr ≤ w2.heap.size := by omega
      clear Br hsr hb2 hz2
      go_wp2
      go_ret
      exact ⟨rfl, B2.out⟩
theorem back11_empty (a : Option Addr) (cap : Nat) (w : World) :
    Calls Try.prog 4 #[.slice a 0 cap] w fun e w' => e = .returned (.bool true) ∧ Below w.heap.size w w' := by
  go_enter Try.func4, Try.ntmps4
  go_wp2
  refine wp_loop_rounds 1 ?_
  rw [rounds_succ]
  go_wp2_with fail
  refine (within32 _).mono ?_
  rintro e w1 ⟨rfl, rfl⟩
  go_wp2_with (go_at_call 28; refine (wakes11_any _).mono ?_; rintro e w' ⟨rfl, hb⟩)
  go_ret
  exact ⟨rfl, hb⟩
end Go.Proofs.Ytgjmladfeelcnaa
