/- The reference's search of a TLB, and its Check: contracts. -/
import Derived.Test.YtcbjmpllmnphkaaBf
set_option linter.all false
namespace Go.Proofs.Ytcbjmpllmnphkaa
open Go.ChangeShapes Go.WideShapes Go.ChangeAt Go.RowKit Go.Deep

theorem placeE_no {p : Ety → Bool} {x : Ety} {L : List Ety} {k : Int} (h : p x = false) : placeE p (x :: L) k = placeE p L (k + 1) := by simp [placeE, h]
theorem placeE_yes {p : Ety → Bool} {x : Ety} {L : List Ety} {k : Int} (h : p x = true) : placeE p (x :: L) k = k := by simp [placeE, h]
set_option maxRecDepth 100000 in
set_option maxHeartbeats 3200000 in
theorem whole9_any (f g : Option Addr) (l c m d : Nat) (E : List Ety) (vm sp pg acc : Int) (w : World) (hL : RowsAt KE w f E) (hn : l = E.length) (hl : l ≤ 1000000) :
    Calls Try.prog 22 #[.agg #[.slice f l c, .slice g m d], .int .i64 vm, .int .i64 sp, .int .i64 pg, .int .i64 acc] w fun r w' => r = .returned (.int .i64 (placeE (isWh vm sp pg acc) E 0)) ∧ Below w.heap.size w w' := by
  have HL := Lib.hid hL
  have HN := Lib.hid hn
  clear hL hn
  obtain ⟨q, hq⟩ : ∃ q, q = placeE (isWh vm sp pg acc) E 0 := ⟨_, rfl⟩
  rw [← hq]
  have HQ := Lib.hid (show placeE (isWh vm sp pg acc) (E.drop 0) ((0 : Nat) : Int) = q from hq.symm)
  clear hq
  have htw : w.heap.size ≤ w.heap.size := Nat.le_refl _
  have B0 := Lib.hid (Below.refl w.heap.size w)
  go_enter Try.func22, Try.ntmps22
  go_upto_region 1 with fail
  have T1 := Lib.hid ((BoxAt.newAt (w) #[.slice f l c, .slice g m d] 25 (w.heap.size) (by first | omega | (simp; done) | (simp; omega))))
  have B1 := Lib.hid ((bel_alloc B0.out (.cells #[.slice f l c, .slice g m d] 25)))
  obtain ⟨g1, hg1⟩ : ∃ g1, g1 = w.heap.size := ⟨_, rfl⟩
  obtain ⟨W1, hW1⟩ : ∃ W1, W1 = (w).alloc (.cells #[.slice f l c, .slice g m d] 25) := ⟨_, rfl⟩
  have hs1 : g1 + 1 ≤ W1.heap.size := by rw [hW1, hg1]; simp
  rw [← hW1] at T1 B1 ⊢
  have hb1 : w.heap.size ≤ g1 := by omega
  rw [← hg1] at T1 ⊢
  clear hg1
  clear hW1 B0
  go_wp2
  go_loopw [11] (fun i wr => ∃ k : Nat, k ≤ l ∧ i = .int .i64 k ∧ Hid (BoxAt wr (g1) #[.slice f l c, .slice g m d] 25) ∧ Hid (Below w.heap.size w wr) ∧ Hid (placeE (isWh vm sp pg acc) (E.drop k) k = q)) (fun i _ => l - (intOf i).toNat)
  case atStart => exact ⟨0, Nat.zero_le _, rfl, T1.out, B1.out, HQ⟩
  case round =>
    clear B1 T1 HQ
    obtain ⟨k, hk, rfl, Tr, Br, HQ⟩ := hrel
    have hsr : g1 + 1 ≤ wr.heap.size := Tr.out.lt
    by_cases hlt : k < l
    · obtain ⟨x, hx⟩ := rows_some HN.out hlt
      obtain ⟨b, o, rfl, hr0⟩ := HL.out k x hx
      have HRX := Lib.hid (show RowAt w b (o + k * 14) 14 #[.int .i64 x.k, .int .i64 x.vm, .int .i64 x.sp, .bool x.al, .int .i64 x.pg, .int .i64 x.lv, .int .i64 x.fr, .int .i64 x.mi, .bool x.t.r, .bool x.t.w, .bool x.t.x, .bool x.t.a, .bool x.t.n, .int .i64 x.t.s] from hr0)
      have hbk : b < w.heap.size := hr0.lt
      clear hr0
      have i1 : (0 : Int) ≤ (k : Int) := by omega
      have i2 : (k : Int) < (l : Int) := by omega
      have hxd := rows_drop hx
      have HX := Lib.hid hxd
      clear hx hxd
      have HOF := Lib.hid (fun W => of9_any x vm sp W)
      obtain ⟨o1, ho1⟩ : ∃ o1, o1 = ofE x vm sp := ⟨_, rfl⟩
      rw [← ho1] at HOF
      have ho1h := Lib.hid ho1
      clear ho1
      unfold entV entC at HOF
      have HMY := Lib.hid (fun W => mayA_any x.t acc W)
      obtain ⟨o2, ho2⟩ : ∃ o2, o2 = mayA x.t acc := ⟨_, rfl⟩
      rw [← ho2] at HMY
      have ho2h := Lib.hid ho2
      clear ho2
      unfold atrV atrC at HMY
      have Tc0 := Tr.out.get 0 (.slice (some ⟨b, o, none⟩) l c) rfl
      have yX := (HRX.out.below Br.out)
      have yX0 := yX.get0 (.int .i64 x.k) (by decide) rfl
      have yX1 := yX.get 1 (.int .i64 x.vm) (by decide) rfl
      have yX2 := yX.get 2 (.int .i64 x.sp) (by decide) rfl
      have yX3 := yX.get 3 (.bool x.al) (by decide) rfl
      have yX4 := yX.get 4 (.int .i64 x.pg) (by decide) rfl
      have yX5 := yX.get 5 (.int .i64 x.lv) (by decide) rfl
      have yX6 := yX.get 6 (.int .i64 x.fr) (by decide) rfl
      have yX7 := yX.get 7 (.int .i64 x.mi) (by decide) rfl
      have yX8 := yX.get 8 (.bool x.t.r) (by decide) rfl
      have yX9 := yX.get 9 (.bool x.t.w) (by decide) rfl
      have yX10 := yX.get 10 (.bool x.t.x) (by decide) rfl
      have yX11 := yX.get 11 (.bool x.t.a) (by decide) rfl
      have yX12 := yX.get 12 (.bool x.t.n) (by decide) rfl
      have yX13 := yX.get 13 (.int .i64 x.t.s) (by decide) rfl
      clear yX
      go_upto_region 5 with fail
      clear Tc0 yX0 yX1 yX2 yX3 yX4 yX5 yX6 yX7 yX8 yX9 yX10 yX11 yX12 yX13
      have T2 := Lib.hid ((Tr.out.alloc (.cells #[.int .i64 x.k, .int .i64 x.vm, .int .i64 x.sp, .bool x.al, .int .i64 x.pg, .int .i64 x.lv, .int .i64 x.fr, .int .i64 x.mi, .bool x.t.r, .bool x.t.w, .bool x.t.x, .bool x.t.a, .bool x.t.n, .int .i64 x.t.s] 34)))
      have X2 := Lib.hid ((BoxAt.newAt (wr) #[.int .i64 x.k, .int .i64 x.vm, .int .i64 x.sp, .bool x.al, .int .i64 x.pg, .int .i64 x.lv, .int .i64 x.fr, .int .i64 x.mi, .bool x.t.r, .bool x.t.w, .bool x.t.x, .bool x.t.a, .bool x.t.n, .int .i64 x.t.s] 34 (wr.heap.size) (by first | omega | (simp; done) | (simp; omega))))
      have B2 := Lib.hid ((bel_alloc Br.out (.cells #[.int .i64 x.k, .int .i64 x.vm, .int .i64 x.sp, .bool x.al, .int .i64 x.pg, .int .i64 x.lv, .int .i64 x.fr, .int .i64 x.mi, .bool x.t.r, .bool x.t.w, .bool x.t.x, .bool x.t.a, .bool x.t.n, .int .i64 x.t.s] 34)))
      obtain ⟨g2, hg2⟩ : ∃ g2, g2 = wr.heap.size := ⟨_, rfl⟩
      obtain ⟨W2, hW2⟩ : ∃ W2, W2 = (wr).alloc (.cells #[.int .i64 x.k, .int .i64 x.vm, .int .i64 x.sp, .bool x.al, .int .i64 x.pg, .int .i64 x.lv, .int .i64 x.fr, .int .i64 x.mi, .bool x.t.r, .bool x.t.w, .bool x.t.x, .bool x.t.a, .bool x.t.n, .int .i64 x.t.s] 34) := ⟨_, rfl⟩
      have hs2 : g2 + 1 ≤ W2.heap.size := by rw [hW2, hg2]; simp
      rw [← hW2] at T2 X2 B2 ⊢
      have hb2 : g1 + 1 ≤ g2 := by omega
      rw [← hg2] at X2 ⊢
      clear hg2
      clear hW2 Tr Br hsr
      have Xc0 := X2.out.get 0 (.int .i64 x.k) rfl
      cases hk : decide (x.k = 1)
      · have ehk : (x.k == 1) = false := (beq_int _ _).trans hk
        have hkh := Lib.hid hk
        clear hk
        have hp9 : (isWh vm sp pg acc) x = false := by simp [isWh, hkh.out]
        have hq9 := HQ.out
        rw [HX.out, placeE_no hp9] at hq9
        have HQ := Lib.hid (show placeE (isWh vm sp pg acc) (E.drop (k + 1)) ((k + 1 : Nat) : Int) = q from hq9)
        clear hq9 hp9
        go_wp2
        go_roundw
        case rel => exact ⟨k + 1, by omega, by go_num, T2.out, B2.out, HQ⟩
        case measure => simp [intOf]; omega
      have ehk : (x.k == 1) = true := (beq_int _ _).trans hk
      have hkh := Lib.hid hk
      clear hk
      have Xc1 := X2.out.get 1 (.int .i64 x.vm) rfl
      have Xc2 := X2.out.get 2 (.int .i64 x.sp) rfl
      have Xc3 := X2.out.get 3 (.bool x.al) rfl
      have Xc4 := X2.out.get 4 (.int .i64 x.pg) rfl
      have Xc5 := X2.out.get 5 (.int .i64 x.lv) rfl
      have Xc6 := X2.out.get 6 (.int .i64 x.fr) rfl
      have Xc7 := X2.out.get 7 (.int .i64 x.mi) rfl
      have Xc8 := X2.out.get 8 (.bool x.t.r) rfl
      have Xc9 := X2.out.get 9 (.bool x.t.w) rfl
      have Xc10 := X2.out.get 10 (.bool x.t.x) rfl
      have Xc11 := X2.out.get 11 (.bool x.t.a) rfl
      have Xc12 := X2.out.get 12 (.bool x.t.n) rfl
      have Xc13 := X2.out.get 13 (.int .i64 x.t.s) rfl
      go_wp2_with fail
      refine (HOF.out _).mono ?_
      rintro e w3 ⟨rfl, hb3⟩
      have hz3 := hb3.size
      have T3 := Lib.hid (T2.out.below hb3)
      have X3 := Lib.hid (X2.out.below hb3)
      have B3 := Lib.hid (bel_trans B2.out hb3)
      skip
      have hs3 : g2 + 1 ≤ w3.heap.size := by omega
      clear Xc0 Xc1 Xc2 Xc3 Xc4 Xc5 Xc6 Xc7 Xc8 Xc9 Xc10 Xc11 Xc12 Xc13
      clear T2 X2 B2 hs2 hb3 hz3
      cases o1
      · have hp9 : (isWh vm sp pg acc) x = false := by simp [isWh, hkh.out, ho1h.out.symm]
        have hq9 := HQ.out
        rw [HX.out, placeE_no hp9] at hq9
        have HQ := Lib.hid (show placeE (isWh vm sp pg acc) (E.drop (k + 1)) ((k + 1 : Nat) : Int) = q from hq9)
        clear hq9 hp9
        go_wp2
        go_roundw
        case rel => exact ⟨k + 1, by omega, by go_num, T3.out, B3.out, HQ⟩
        case measure => simp [intOf]; omega
      have Xc4 := X3.out.get 4 (.int .i64 x.pg) rfl
      cases hp : decide (x.pg = pg)
      · have ehp : (x.pg == pg) = false := (beq_int _ _).trans hp
        have hph := Lib.hid hp
        clear hp
        have hp9 : (isWh vm sp pg acc) x = false := by simp [isWh, hkh.out, ho1h.out.symm, hph.out]
        have hq9 := HQ.out
        rw [HX.out, placeE_no hp9] at hq9
        have HQ := Lib.hid (show placeE (isWh vm sp pg acc) (E.drop (k + 1)) ((k + 1 : Nat) : Int) = q from hq9)
        clear hq9 hp9
        go_wp2
        go_roundw
        case rel => exact ⟨k + 1, by omega, by go_num, T3.out, B3.out, HQ⟩
        case measure => simp [intOf]; omega
      have ehp : (x.pg == pg) = true := (beq_int _ _).trans hp
      have hph := Lib.hid hp
      clear hp
      have Xc8 := X3.out.get 8 (.bool x.t.r) rfl
      have Xc9 := X3.out.get 9 (.bool x.t.w) rfl
      have Xc10 := X3.out.get 10 (.bool x.t.x) rfl
      have Xc11 := X3.out.get 11 (.bool x.t.a) rfl
      have Xc12 := X3.out.get 12 (.bool x.t.n) rfl
      have Xc13 := X3.out.get 13 (.int .i64 x.t.s) rfl
      go_wp2_with fail
      refine (HMY.out _).mono ?_
      rintro e w4 ⟨rfl, hb4⟩
      have hz4 := hb4.size
      have T4 := Lib.hid (T3.out.below hb4)
      have X4 := Lib.hid (X3.out.below hb4)
      have B4 := Lib.hid (bel_trans B3.out hb4)
      skip
      have hs4 : g2 + 1 ≤ w4.heap.size := by omega
      clear Xc4 Xc8 Xc9 Xc10 Xc11 Xc12 Xc13
      clear T3 X3 B3 hs3 hb4 hz4
      cases o2
      · have hp9 : (isWh vm sp pg acc) x = false := by simp [isWh, hkh.out, ho1h.out.symm, hph.out, ho2h.out.symm]
        have hq9 := HQ.out
        rw [HX.out, placeE_no hp9] at hq9
        have HQ := Lib.hid (show placeE (isWh vm sp pg acc) (E.drop (k + 1)) ((k + 1 : Nat) : Int) = q from hq9)
        clear hq9 hp9
        go_wp2
        go_roundw
        case rel => exact ⟨k + 1, by omega, by go_num, T4.out, B4.out, HQ⟩
        case measure => simp [intOf]; omega
      go_wp2
      go_ret
      have hp9 : (isWh vm sp pg acc) x = true := by simp [isWh, hkh.out, ho1h.out.symm, hph.out, ho2h.out.symm]
      have hq9 := HQ.out
      rw [HX.out, placeE_yes hp9] at hq9
      exact ⟨ret_int hq9, B4.out⟩
    · have HQ2 := HQ.out
      rw [rows_end HN.out hlt] at HQ2
      have HQ := Lib.hid (show (-1 : Int) = q from HQ2)
      clear HQ2
      have Tc0 := Tr.out.get 0 (.slice f l c) rfl
      go_wp2
      go_ret
      exact ⟨ret_int HQ.out, Br.out⟩
set_option maxRecDepth 100000 in
set_option maxHeartbeats 3200000 in
theorem mid9_any (f g : Option Addr) (l c m d : Nat) (E : List Ety) (vm pg acc : Int) (w : World) (hL : RowsAt KE w f E) (hn : l = E.length) (hl : l ≤ 1000000) :
    Calls Try.prog 23 #[.agg #[.slice f l c, .slice g m d], .int .i64 vm, .int .i64 pg, .int .i64 acc] w fun r w' => r = .returned (.int .i64 (placeE (isMd vm pg acc) E 0)) ∧ Below w.heap.size w w' := by
  have HL := Lib.hid hL
  have HN := Lib.hid hn
  clear hL hn
  obtain ⟨q, hq⟩ : ∃ q, q = placeE (isMd vm pg acc) E 0 := ⟨_, rfl⟩
  rw [← hq]
  have HQ := Lib.hid (show placeE (isMd vm pg acc) (E.drop 0) ((0 : Nat) : Int) = q from hq.symm)
  clear hq
  have htw : w.heap.size ≤ w.heap.size := Nat.le_refl _
  have B0 := Lib.hid (Below.refl w.heap.size w)
  go_enter Try.func23, Try.ntmps23
  go_upto_region 1 with fail
  have T1 := Lib.hid ((BoxAt.newAt (w) #[.slice f l c, .slice g m d] 25 (w.heap.size) (by first | omega | (simp; done) | (simp; omega))))
  have B1 := Lib.hid ((bel_alloc B0.out (.cells #[.slice f l c, .slice g m d] 25)))
  obtain ⟨g1, hg1⟩ : ∃ g1, g1 = w.heap.size := ⟨_, rfl⟩
  obtain ⟨W1, hW1⟩ : ∃ W1, W1 = (w).alloc (.cells #[.slice f l c, .slice g m d] 25) := ⟨_, rfl⟩
  have hs1 : g1 + 1 ≤ W1.heap.size := by rw [hW1, hg1]; simp
  rw [← hW1] at T1 B1 ⊢
  have hb1 : w.heap.size ≤ g1 := by omega
  rw [← hg1] at T1 ⊢
  clear hg1
  clear hW1 B0
  go_wp2
  go_loopw [9] (fun i wr => ∃ k : Nat, k ≤ l ∧ i = .int .i64 k ∧ Hid (BoxAt wr (g1) #[.slice f l c, .slice g m d] 25) ∧ Hid (Below w.heap.size w wr) ∧ Hid (placeE (isMd vm pg acc) (E.drop k) k = q)) (fun i _ => l - (intOf i).toNat)
  case atStart => exact ⟨0, Nat.zero_le _, rfl, T1.out, B1.out, HQ⟩
  case round =>
    clear B1 T1 HQ
    obtain ⟨k, hk, rfl, Tr, Br, HQ⟩ := hrel
    have hsr : g1 + 1 ≤ wr.heap.size := Tr.out.lt
    by_cases hlt : k < l
    · obtain ⟨x, hx⟩ := rows_some HN.out hlt
      obtain ⟨b, o, rfl, hr0⟩ := HL.out k x hx
      have HRX := Lib.hid (show RowAt w b (o + k * 14) 14 #[.int .i64 x.k, .int .i64 x.vm, .int .i64 x.sp, .bool x.al, .int .i64 x.pg, .int .i64 x.lv, .int .i64 x.fr, .int .i64 x.mi, .bool x.t.r, .bool x.t.w, .bool x.t.x, .bool x.t.a, .bool x.t.n, .int .i64 x.t.s] from hr0)
      have hbk : b < w.heap.size := hr0.lt
      clear hr0
      have i1 : (0 : Int) ≤ (k : Int) := by omega
      have i2 : (k : Int) < (l : Int) := by omega
      have hxd := rows_drop hx
      have HX := Lib.hid hxd
      clear hx hxd
      have HMY := Lib.hid (fun W => mayA_any x.t acc W)
      obtain ⟨o2, ho2⟩ : ∃ o2, o2 = mayA x.t acc := ⟨_, rfl⟩
      rw [← ho2] at HMY
      have ho2h := Lib.hid ho2
      clear ho2
      unfold atrV atrC at HMY
      have Tc0 := Tr.out.get 0 (.slice (some ⟨b, o, none⟩) l c) rfl
      have yX := (HRX.out.below Br.out)
      have yX0 := yX.get0 (.int .i64 x.k) (by decide) rfl
      have yX1 := yX.get 1 (.int .i64 x.vm) (by decide) rfl
      have yX2 := yX.get 2 (.int .i64 x.sp) (by decide) rfl
      have yX3 := yX.get 3 (.bool x.al) (by decide) rfl
      have yX4 := yX.get 4 (.int .i64 x.pg) (by decide) rfl
      have yX5 := yX.get 5 (.int .i64 x.lv) (by decide) rfl
      have yX6 := yX.get 6 (.int .i64 x.fr) (by decide) rfl
      have yX7 := yX.get 7 (.int .i64 x.mi) (by decide) rfl
      have yX8 := yX.get 8 (.bool x.t.r) (by decide) rfl
      have yX9 := yX.get 9 (.bool x.t.w) (by decide) rfl
      have yX10 := yX.get 10 (.bool x.t.x) (by decide) rfl
      have yX11 := yX.get 11 (.bool x.t.a) (by decide) rfl
      have yX12 := yX.get 12 (.bool x.t.n) (by decide) rfl
      have yX13 := yX.get 13 (.int .i64 x.t.s) (by decide) rfl
      clear yX
      go_upto_region 5 with fail
      clear Tc0 yX0 yX1 yX2 yX3 yX4 yX5 yX6 yX7 yX8 yX9 yX10 yX11 yX12 yX13
      have T2 := Lib.hid ((Tr.out.alloc (.cells #[.int .i64 x.k, .int .i64 x.vm, .int .i64 x.sp, .bool x.al, .int .i64 x.pg, .int .i64 x.lv, .int .i64 x.fr, .int .i64 x.mi, .bool x.t.r, .bool x.t.w, .bool x.t.x, .bool x.t.a, .bool x.t.n, .int .i64 x.t.s] 34)))
      have X2 := Lib.hid ((BoxAt.newAt (wr) #[.int .i64 x.k, .int .i64 x.vm, .int .i64 x.sp, .bool x.al, .int .i64 x.pg, .int .i64 x.lv, .int .i64 x.fr, .int .i64 x.mi, .bool x.t.r, .bool x.t.w, .bool x.t.x, .bool x.t.a, .bool x.t.n, .int .i64 x.t.s] 34 (wr.heap.size) (by first | omega | (simp; done) | (simp; omega))))
      have B2 := Lib.hid ((bel_alloc Br.out (.cells #[.int .i64 x.k, .int .i64 x.vm, .int .i64 x.sp, .bool x.al, .int .i64 x.pg, .int .i64 x.lv, .int .i64 x.fr, .int .i64 x.mi, .bool x.t.r, .bool x.t.w, .bool x.t.x, .bool x.t.a, .bool x.t.n, .int .i64 x.t.s] 34)))
      obtain ⟨g2, hg2⟩ : ∃ g2, g2 = wr.heap.size := ⟨_, rfl⟩
      obtain ⟨W2, hW2⟩ : ∃ W2, W2 = (wr).alloc (.cells #[.int .i64 x.k, .int .i64 x.vm, .int .i64 x.sp, .bool x.al, .int .i64 x.pg, .int .i64 x.lv, .int .i64 x.fr, .int .i64 x.mi, .bool x.t.r, .bool x.t.w, .bool x.t.x, .bool x.t.a, .bool x.t.n, .int .i64 x.t.s] 34) := ⟨_, rfl⟩
      have hs2 : g2 + 1 ≤ W2.heap.size := by rw [hW2, hg2]; simp
      rw [← hW2] at T2 X2 B2 ⊢
      have hb2 : g1 + 1 ≤ g2 := by omega
      rw [← hg2] at X2 ⊢
      clear hg2
      clear hW2 Tr Br hsr
      have Xc0 := X2.out.get 0 (.int .i64 x.k) rfl
      cases hk : decide (x.k = 2)
      · have ehk : (x.k == 2) = false := (beq_int _ _).trans hk
        have hkh := Lib.hid hk
        clear hk
        have hp9 : (isMd vm pg acc) x = false := by simp [isMd, hkh.out]
        have hq9 := HQ.out
        rw [HX.out, placeE_no hp9] at hq9
        have HQ := Lib.hid (show placeE (isMd vm pg acc) (E.drop (k + 1)) ((k + 1 : Nat) : Int) = q from hq9)
        clear hq9 hp9
        go_wp2
        go_roundw
        case rel => exact ⟨k + 1, by omega, by go_num, T2.out, B2.out, HQ⟩
        case measure => simp [intOf]; omega
      have ehk : (x.k == 2) = true := (beq_int _ _).trans hk
      have hkh := Lib.hid hk
      clear hk
      have Xc1 := X2.out.get 1 (.int .i64 x.vm) rfl
      cases hv : decide (x.vm = vm)
      · have ehv : (x.vm == vm) = false := (beq_int _ _).trans hv
        have hvh := Lib.hid hv
        clear hv
        have hp9 : (isMd vm pg acc) x = false := by simp [isMd, hkh.out, hvh.out]
        have hq9 := HQ.out
        rw [HX.out, placeE_no hp9] at hq9
        have HQ := Lib.hid (show placeE (isMd vm pg acc) (E.drop (k + 1)) ((k + 1 : Nat) : Int) = q from hq9)
        clear hq9 hp9
        go_wp2
        go_roundw
        case rel => exact ⟨k + 1, by omega, by go_num, T2.out, B2.out, HQ⟩
        case measure => simp [intOf]; omega
      have ehv : (x.vm == vm) = true := (beq_int _ _).trans hv
      have hvh := Lib.hid hv
      clear hv
      have Xc4 := X2.out.get 4 (.int .i64 x.pg) rfl
      cases hp : decide (x.pg = pg)
      · have ehp : (x.pg == pg) = false := (beq_int _ _).trans hp
        have hph := Lib.hid hp
        clear hp
        have hp9 : (isMd vm pg acc) x = false := by simp [isMd, hkh.out, hvh.out, hph.out]
        have hq9 := HQ.out
        rw [HX.out, placeE_no hp9] at hq9
        have HQ := Lib.hid (show placeE (isMd vm pg acc) (E.drop (k + 1)) ((k + 1 : Nat) : Int) = q from hq9)
        clear hq9 hp9
        go_wp2
        go_roundw
        case rel => exact ⟨k + 1, by omega, by go_num, T2.out, B2.out, HQ⟩
        case measure => simp [intOf]; omega
      have ehp : (x.pg == pg) = true := (beq_int _ _).trans hp
      have hph := Lib.hid hp
      clear hp
      have Xc8 := X2.out.get 8 (.bool x.t.r) rfl
      have Xc9 := X2.out.get 9 (.bool x.t.w) rfl
      have Xc10 := X2.out.get 10 (.bool x.t.x) rfl
      have Xc11 := X2.out.get 11 (.bool x.t.a) rfl
      have Xc12 := X2.out.get 12 (.bool x.t.n) rfl
      have Xc13 := X2.out.get 13 (.int .i64 x.t.s) rfl
      go_wp2_with fail
      refine (HMY.out _).mono ?_
      rintro e w3 ⟨rfl, hb3⟩
      have hz3 := hb3.size
      have T3 := Lib.hid (T2.out.below hb3)
      have X3 := Lib.hid (X2.out.below hb3)
      have B3 := Lib.hid (bel_trans B2.out hb3)
      skip
      have hs3 : g2 + 1 ≤ w3.heap.size := by omega
      clear Xc0 Xc1 Xc4 Xc8 Xc9 Xc10 Xc11 Xc12 Xc13
      clear T2 X2 B2 hs2 hb3 hz3
      cases o2
      · have hp9 : (isMd vm pg acc) x = false := by simp [isMd, hkh.out, hvh.out, hph.out, ho2h.out.symm]
        have hq9 := HQ.out
        rw [HX.out, placeE_no hp9] at hq9
        have HQ := Lib.hid (show placeE (isMd vm pg acc) (E.drop (k + 1)) ((k + 1 : Nat) : Int) = q from hq9)
        clear hq9 hp9
        go_wp2
        go_roundw
        case rel => exact ⟨k + 1, by omega, by go_num, T3.out, B3.out, HQ⟩
        case measure => simp [intOf]; omega
      go_wp2
      go_ret
      have hp9 : (isMd vm pg acc) x = true := by simp [isMd, hkh.out, hvh.out, hph.out, ho2h.out.symm]
      have hq9 := HQ.out
      rw [HX.out, placeE_yes hp9] at hq9
      exact ⟨ret_int hq9, B3.out⟩
    · have HQ2 := HQ.out
      rw [rows_end HN.out hlt] at HQ2
      have HQ := Lib.hid (show (-1 : Int) = q from HQ2)
      clear HQ2
      have Tc0 := Tr.out.get 0 (.slice f l c) rfl
      go_wp2
      go_ret
      exact ⟨ret_int HQ.out, Br.out⟩
end Go.Proofs.Ytcbjmpllmnphkaa
