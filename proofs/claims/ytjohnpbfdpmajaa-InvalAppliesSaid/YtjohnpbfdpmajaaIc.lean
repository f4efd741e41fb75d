/- Stage 10: the landed package inval: an entry and a row of what takes away: contracts. -/
import Derived.Test.YtjohnpbfdpmajaaIb
set_option linter.all false
namespace Go.Proofs.Ytjohnpbfdpmajaa
open Go.ChangeShapes Go.WideShapes Go.ChangeAt Go.RowKit Go.Deep

/-- One of a row takes an entry away. -/
def anyT (e : Ety) : List Inv → Bool
  | [] => false
  | i :: D => takeB i e || anyT e D
theorem allV_mem {D : List Inv} (h : allV D = true) : ∀ (k : Nat) (i : Inv), D[k]? = some i → mayIn i = true := by
  induction D with
  | nil => intro k i hk; simp at hk
  | cons x D ih =>
    simp only [allV, Bool.and_eq_true] at h
    intro k i hk
    cases k with
    | zero => simp only [List.getElem?_cons_zero, Option.some.injEq] at hk; rw [← hk]; exact h.1
    | succ k => exact ih h.2 k i (by simpa using hk)
set_option maxRecDepth 100000 in
set_option maxHeartbeats 3200000 in
theorem taker_any (i : Inv) (e : Ety) (h : mayEn e = true) (hi : mayIn i = true) (w : World) :
    Calls Try.prog 57 #[invV i, entV e] w fun q w' => q = .returned (.bool (takeB i e)) ∧ Below w.heap.size w w' := by
  have HT0 := fun W hv hk1 => takem_any i e h hi hv hk1 W
  obtain ⟨vb, hvb0⟩ : ∃ vb, vb = decide (e.vm = i.vm) := ⟨_, rfl⟩
  have hvb := hvb0.symm
  have evb : (i.vm == e.vm) = vb := by rw [hvb0, beq_int]; exact decide_eq_decide.2 ⟨Eq.symm, Eq.symm⟩
  have HT := Lib.hid (fun W (h1 : vb = true) (h2 : decide (i.k = 1) = false) => HT0 W (of_decide_eq_true (hvb0.symm.trans h1)) h2)
  clear h hi hvb0 HT0
  unfold takeB
  generalize takeM i e = tm at *
  unfold invV invC entV entC at *
  have htw : w.heap.size ≤ w.heap.size := Nat.le_refl _
  have B0 := Lib.hid (Below.refl w.heap.size w)
  go_enter Try.func57, Try.ntmps57
  go_upto_region 1 with fail
  have I1 := Lib.hid (((BoxAt.newAt (w) #[.int .i64 i.k, .int .i64 i.vm, .int .i64 i.sp, .int .i64 i.pg] 84 (w.heap.size) (by first | omega | (simp; done) | (simp; omega))).alloc (.cells #[.int .i64 e.k, .int .i64 e.vm, .int .i64 e.sp, .bool e.al, .int .i64 e.pg, .int .i64 e.lv, .int .i64 e.fr, .int .i64 e.mi, .bool e.t.r, .bool e.t.w, .bool e.t.x, .bool e.t.a, .bool e.t.n, .int .i64 e.t.s] 65)))
  have R1 := Lib.hid ((BoxAt.newAt ((w).alloc (.cells #[.int .i64 i.k, .int .i64 i.vm, .int .i64 i.sp, .int .i64 i.pg] 84)) #[.int .i64 e.k, .int .i64 e.vm, .int .i64 e.sp, .bool e.al, .int .i64 e.pg, .int .i64 e.lv, .int .i64 e.fr, .int .i64 e.mi, .bool e.t.r, .bool e.t.w, .bool e.t.x, .bool e.t.a, .bool e.t.n, .int .i64 e.t.s] 65 (w.heap.size + 1) (by first | omega | (simp; done) | (simp; omega))))
  have B1 := Lib.hid ((bel_alloc (bel_alloc B0.out (.cells #[.int .i64 i.k, .int .i64 i.vm, .int .i64 i.sp, .int .i64 i.pg] 84)) (.cells #[.int .i64 e.k, .int .i64 e.vm, .int .i64 e.sp, .bool e.al, .int .i64 e.pg, .int .i64 e.lv, .int .i64 e.fr, .int .i64 e.mi, .bool e.t.r, .bool e.t.w, .bool e.t.x, .bool e.t.a, .bool e.t.n, .int .i64 e.t.s] 65)))
  obtain ⟨g1, hg1⟩ : ∃ g1, g1 = w.heap.size := ⟨_, rfl⟩
  obtain ⟨W1, hW1⟩ : ∃ W1, W1 = ((w).alloc (.cells #[.int .i64 i.k, .int .i64 i.vm, .int .i64 i.sp, .int .i64 i.pg] 84)).alloc (.cells #[.int .i64 e.k, .int .i64 e.vm, .int .i64 e.sp, .bool e.al, .int .i64 e.pg, .int .i64 e.lv, .int .i64 e.fr, .int .i64 e.mi, .bool e.t.r, .bool e.t.w, .bool e.t.x, .bool e.t.a, .bool e.t.n, .int .i64 e.t.s] 65) := ⟨_, rfl⟩
  have hs1 : g1 + 1 + 1 ≤ W1.heap.size := by rw [hW1, hg1]; simp
  rw [← hW1] at I1 R1 B1 ⊢
  have hb1 : w.heap.size ≤ g1 := by omega
  rw [← hg1] at I1 R1 ⊢
  clear hg1
  clear hW1 B0
  have Ic0 := I1.out.get 0 (.int .i64 i.k) rfl
  cases hq2 : decide (i.k = 1)
  · have ehq2 : (i.k == 1) = false := (beq_int _ _).trans hq2
    have Ic1 := I1.out.get 1 (.int .i64 i.vm) rfl
    have Rc1 := R1.out.get 1 (.int .i64 e.vm) rfl
    cases hq3 : vb
    · go_wp2
      all_goals
        go_ret
        refine ⟨ret_bool ?_, B1.out⟩
        first | rfl | (simp [takeB, hvb, hq2, hq3]; done) | (simp [bne, beq_int, takeB, hvb, hq2, hq3]; done)
    have Ic2 := I1.out.get 2 (.int .i64 i.sp) rfl
    have Ic3 := I1.out.get 3 (.int .i64 i.pg) rfl
    have Rc0 := R1.out.get 0 (.int .i64 e.k) rfl
    have Rc2 := R1.out.get 2 (.int .i64 e.sp) rfl
    have Rc3 := R1.out.get 3 (.bool e.al) rfl
    have Rc4 := R1.out.get 4 (.int .i64 e.pg) rfl
    have Rc5 := R1.out.get 5 (.int .i64 e.lv) rfl
    have Rc6 := R1.out.get 6 (.int .i64 e.fr) rfl
    have Rc7 := R1.out.get 7 (.int .i64 e.mi) rfl
    have Rc8 := R1.out.get 8 (.bool e.t.r) rfl
    have Rc9 := R1.out.get 9 (.bool e.t.w) rfl
    have Rc10 := R1.out.get 10 (.bool e.t.x) rfl
    have Rc11 := R1.out.get 11 (.bool e.t.a) rfl
    have Rc12 := R1.out.get 12 (.bool e.t.n) rfl
    have Rc13 := R1.out.get 13 (.int .i64 e.t.s) rfl
    go_wp2_with fail
    refine (HT.out _ (by first | trivial | rfl) (by first | trivial | rfl)).mono ?_
    rintro e w4 ⟨rfl, hb4⟩
    have hz4 := hb4.size
    have I4 := Lib.hid (I1.out.below hb4)
    have R4 := Lib.hid (R1.out.below hb4)
    have B4 := Lib.hid (bel_trans B1.out hb4)
    skip
    have hs4 : g1 + 1 + 1 ≤ w4.heap.size := by omega
    clear Ic0 Ic1 Rc1 Ic2 Ic3 Rc0 Rc2 Rc3 Rc4 Rc5 Rc6 Rc7 Rc8 Rc9 Rc10 Rc11 Rc12 Rc13
    clear I1 R1 B1 hs1 hb4 hz4
    go_wp2
    all_goals
      go_ret
      refine ⟨ret_bool ?_, B4.out⟩
      first | rfl | (simp [takeB, hvb, hq2, hq3]; done) | (simp [bne, beq_int, takeB, hvb, hq2, hq3]; done)
  have ehq2 : (i.k == 1) = true := (beq_int _ _).trans hq2
  go_wp2
  all_goals
    go_ret
    refine ⟨ret_bool ?_, B1.out⟩
    first | rfl | (simp [takeB, hvb, hq2]; done) | (simp [bne, beq_int, takeB, hvb, hq2]; done)
set_option maxRecDepth 100000 in
set_option maxHeartbeats 3200000 in
theorem taken_any (e : Ety) (f : Option Addr) (l c : Nat) (D : List Inv) (w : World) (he : mayEn e = true) (hv : allV D = true) (hD : RowsAt KI w f D) (ho : l = D.length) (hl : l ≤ 1000000) :
    Calls Try.prog 40 #[entV e, .slice f l c] w fun q w' => q = .returned (.bool (anyT e D)) ∧ Below w.heap.size w w' := by
  have HD := Lib.hid hD
  have HO := Lib.hid ho
  have HE := Lib.hid he
  have HV := Lib.hid hv
  clear hD ho he hv
  obtain ⟨qb, hqb⟩ : ∃ q, q = anyT e D := ⟨_, rfl⟩
  rw [← hqb]
  have HP := Lib.hid (show anyT e (D.drop 0) = qb from hqb.symm)
  clear hqb
  unfold entV entC
  have htw : w.heap.size ≤ w.heap.size := Nat.le_refl _
  have B0 := Lib.hid (Below.refl w.heap.size w)
  go_enter Try.func40, Try.ntmps40
  go_upto_region 1 with fail
  have R1 := Lib.hid ((BoxAt.newAt (w) #[.int .i64 e.k, .int .i64 e.vm, .int .i64 e.sp, .bool e.al, .int .i64 e.pg, .int .i64 e.lv, .int .i64 e.fr, .int .i64 e.mi, .bool e.t.r, .bool e.t.w, .bool e.t.x, .bool e.t.a, .bool e.t.n, .int .i64 e.t.s] 65 (w.heap.size) (by first | omega | (simp; done) | (simp; omega))))
  have B1 := Lib.hid ((bel_alloc B0.out (.cells #[.int .i64 e.k, .int .i64 e.vm, .int .i64 e.sp, .bool e.al, .int .i64 e.pg, .int .i64 e.lv, .int .i64 e.fr, .int .i64 e.mi, .bool e.t.r, .bool e.t.w, .bool e.t.x, .bool e.t.a, .bool e.t.n, .int .i64 e.t.s] 65)))
  obtain ⟨g1, hg1⟩ : ∃ g1, g1 = w.heap.size := ⟨_, rfl⟩
  obtain ⟨W1, hW1⟩ : ∃ W1, W1 = (w).alloc (.cells #[.int .i64 e.k, .int .i64 e.vm, .int .i64 e.sp, .bool e.al, .int .i64 e.pg, .int .i64 e.lv, .int .i64 e.fr, .int .i64 e.mi, .bool e.t.r, .bool e.t.w, .bool e.t.x, .bool e.t.a, .bool e.t.n, .int .i64 e.t.s] 65) := ⟨_, rfl⟩
  have hs1 : g1 + 1 ≤ W1.heap.size := by rw [hW1, hg1]; simp
  rw [← hW1] at R1 B1 ⊢
  have hb1 : w.heap.size ≤ g1 := by omega
  rw [← hg1] at R1 ⊢
  clear hg1
  clear hW1 B0
  go_wp2
  go_loopw [9] (fun i wr => ∃ k : Nat, k ≤ l ∧ i = .int .i64 k ∧ Hid (BoxAt wr (g1) #[.int .i64 e.k, .int .i64 e.vm, .int .i64 e.sp, .bool e.al, .int .i64 e.pg, .int .i64 e.lv, .int .i64 e.fr, .int .i64 e.mi, .bool e.t.r, .bool e.t.w, .bool e.t.x, .bool e.t.a, .bool e.t.n, .int .i64 e.t.s] 65) ∧ Hid (Below w.heap.size w wr) ∧ Hid (anyT e (D.drop k) = qb)) (fun i _ => l - (intOf i).toNat)
  case atStart => exact ⟨0, Nat.zero_le _, rfl, R1.out, B1.out, HP⟩
  case round =>
    clear B1 R1 HP
    obtain ⟨k, hk, rfl, Rr, Br, HP⟩ := hrel
    have hsr : g1 + 1 ≤ wr.heap.size := Rr.out.lt
    by_cases hlt : k < l
    · obtain ⟨x, hx⟩ := rows_some HO.out hlt
      obtain ⟨b, o, rfl, hr0⟩ := HD.out k x hx
      have HRX := Lib.hid (show RowAt w b (o + k * 4) 4 #[.int .i64 x.k, .int .i64 x.vm, .int .i64 x.sp, .int .i64 x.pg] from hr0)
      have hbk : b < w.heap.size := hr0.lt
      clear hr0
      have i1 : (0 : Int) ≤ (k : Int) := by omega
      have i2 : (k : Int) < (l : Int) := by omega
      have HEN := Lib.hid (fun W => taker_any x e HE.out (allV_mem HV.out k x hx) W)
      have hxd := rows_drop hx
      have HX := Lib.hid hxd
      clear hx hxd
      obtain ⟨o1, ho1⟩ : ∃ o1, o1 = takeB x e := ⟨_, rfl⟩
      rw [← ho1] at HEN
      have ho1h := Lib.hid ho1
      clear ho1
      unfold invV invC entV entC at HEN
      have yX := (HRX.out.below Br.out)
      have yX0 := yX.get0 (.int .i64 x.k) (by decide) rfl
      have yX1 := yX.get 1 (.int .i64 x.vm) (by decide) rfl
      have yX2 := yX.get 2 (.int .i64 x.sp) (by decide) rfl
      have yX3 := yX.get 3 (.int .i64 x.pg) (by decide) rfl
      clear yX
      go_upto_region 4 with fail
      clear yX0 yX1 yX2 yX3
      have R2 := Lib.hid ((Rr.out.alloc (.cells #[.int .i64 x.k, .int .i64 x.vm, .int .i64 x.sp, .int .i64 x.pg] 32)))
      have Q2 := Lib.hid ((BoxAt.newAt (wr) #[.int .i64 x.k, .int .i64 x.vm, .int .i64 x.sp, .int .i64 x.pg] 32 (wr.heap.size) (by first | omega | (simp; done) | (simp; omega))))
      have B2 := Lib.hid ((bel_alloc Br.out (.cells #[.int .i64 x.k, .int .i64 x.vm, .int .i64 x.sp, .int .i64 x.pg] 32)))
      obtain ⟨g2, hg2⟩ : ∃ g2, g2 = wr.heap.size := ⟨_, rfl⟩
      obtain ⟨W2, hW2⟩ : ∃ W2, W2 = (wr).alloc (.cells #[.int .i64 x.k, .int .i64 x.vm, .int .i64 x.sp, .int .i64 x.pg] 32) := ⟨_, rfl⟩
      have hs2 : g2 + 1 ≤ W2.heap.size := by rw [hW2, hg2]; simp
      rw [← hW2] at R2 Q2 B2 ⊢
      have hb2 : g1 + 1 ≤ g2 := by omega
      rw [← hg2] at Q2 ⊢
      clear hg2
      clear hW2 Rr Br hsr
      have Qc0 := Q2.out.get 0 (.int .i64 x.k) rfl
      have Qc1 := Q2.out.get 1 (.int .i64 x.vm) rfl
      have Qc2 := Q2.out.get 2 (.int .i64 x.sp) rfl
      have Qc3 := Q2.out.get 3 (.int .i64 x.pg) rfl
      have Rc0 := R2.out.get 0 (.int .i64 e.k) rfl
      have Rc1 := R2.out.get 1 (.int .i64 e.vm) rfl
      have Rc2 := R2.out.get 2 (.int .i64 e.sp) rfl
      have Rc3 := R2.out.get 3 (.bool e.al) rfl
      have Rc4 := R2.out.get 4 (.int .i64 e.pg) rfl
      have Rc5 := R2.out.get 5 (.int .i64 e.lv) rfl
      have Rc6 := R2.out.get 6 (.int .i64 e.fr) rfl
      have Rc7 := R2.out.get 7 (.int .i64 e.mi) rfl
      have Rc8 := R2.out.get 8 (.bool e.t.r) rfl
      have Rc9 := R2.out.get 9 (.bool e.t.w) rfl
      have Rc10 := R2.out.get 10 (.bool e.t.x) rfl
      have Rc11 := R2.out.get 11 (.bool e.t.a) rfl
      have Rc12 := R2.out.get 12 (.bool e.t.n) rfl
      have Rc13 := R2.out.get 13 (.int .i64 e.t.s) rfl
      go_wp2_with fail
      refine (HEN.out _).mono ?_
      rintro e w3 ⟨rfl, hb3⟩
      have hz3 := hb3.size
      have R3 := Lib.hid (R2.out.below hb3)
      have Q3 := Lib.hid (Q2.out.below hb3)
      have B3 := Lib.hid (bel_trans B2.out hb3)
      skip
      have hs3 : g2 + 1 ≤ w3.heap.size := by omega
      clear Qc0 Qc1 Qc2 Qc3 Rc0 Rc1 Rc2 Rc3 Rc4 Rc5 Rc6 Rc7 Rc8 Rc9 Rc10 Rc11 Rc12 Rc13
      clear R2 Q2 B2 hs2 hb3 hz3
      cases o1
      · have HP := Lib.hid (show anyT e (D.drop (k + 1)) = qb from by rw [← HP.out, HX.out]; simp [anyT, ho1h.out.symm])
        go_wp2
        go_roundw
        case rel => exact ⟨k + 1, by omega, by go_num, R3.out, B3.out, HP⟩
        case measure => simp [intOf]; omega
      have HR := Lib.hid (show true = qb from by rw [← HP.out, HX.out]; simp [anyT, ho1h.out.symm])
      go_wp2
      go_ret
      exact ⟨ret_bool HR.out, B3.out⟩
    · have HR := Lib.hid (show false = qb from by rw [← HP.out, rows_end HO.out hlt]; rfl)
      go_wp2
      go_ret
      exact ⟨ret_bool HR.out, Br.out⟩
set_option maxRecDepth 100000 in
set_option maxHeartbeats 3200000 in
theorem maybe_any (f : Option Addr) (l c : Nat) (D : List Inv) (w : World) (hD : RowsAt KI w f D) (ho : l = D.length) (hl : l ≤ 1000000) (hc : l ≤ c) (hc2 : c ≤ maxLen) :
    Calls Try.prog 38 #[.slice f l c] w fun q w' => q = .returned (.bool (allV D)) ∧ Below w.heap.size w w' := by
  have HD := Lib.hid hD
  have HO := Lib.hid ho
  have HC := Lib.hid hc
  clear hD ho hc
  obtain ⟨qb, hqb⟩ : ∃ q, q = allV D := ⟨_, rfl⟩
  rw [← hqb]
  have HP := Lib.hid (show allV (D.drop 0) = qb from hqb.symm)
  clear hqb
  have htw : w.heap.size ≤ w.heap.size := Nat.le_refl _
  have B0 := Lib.hid (Below.refl w.heap.size w)
  go_enter Try.func38, Try.ntmps38
  go_wp2
  go_loopw [6] (fun i wr => ∃ k : Nat, k ≤ l ∧ i = .int .i64 k ∧ Hid (Below w.heap.size w wr) ∧ Hid (allV (D.drop k) = qb)) (fun i _ => l - (intOf i).toNat)
  case atStart => exact ⟨0, Nat.zero_le _, rfl, B0.out, HP⟩
  case round =>
    clear B0 HP
    obtain ⟨k, hk, rfl, Br, HP⟩ := hrel
    have hsr := Br.out.size
    by_cases hlt : k < l
    · obtain ⟨x, hx⟩ := rows_some HO.out hlt
      have HD2 := HD
      obtain ⟨b, o, rfl, hr0⟩ := HD.out k x hx
      clear hr0
      have i1 : (0 : Int) ≤ (k : Int) := by omega
      have i2 : (k : Int) < (l : Int) := by omega
      have i3 : (k : Int) + 1 ≤ (c : Int) := by have := HC.out; omega
      have i4 : ¬ c = k := by have := HC.out; omega
      have iw : IntKind.i64.wrap ((k : Int) + 1) = ((k + 1 : Nat) : Int) := by rw [IntWalk.i64_in _ (by omega)]; omega
      have hxd := rows_drop hx
      have hx1 : (D.drop k).take 1 = [x] := by rw [hxd]; rfl
      have HEN := Lib.hid (fun W (hB : Below w.heap.size w W) => checkC none (some ⟨b, o + k * 4, none⟩) 0 0 1 (c - k) [] [x] W (RowsAt.nil _ _) rfl (hx1 ▸ (((HD2.out.below hB).from' k).take 1)) rfl (by decide) (by decide) (Nat.le_refl _) (by decide))
      rw [mayT_inv] at HEN
      have HX := Lib.hid hxd
      clear hx hxd hx1
      obtain ⟨o1, ho1⟩ : ∃ o1, o1 = mayIn x := ⟨_, rfl⟩
      rw [← ho1] at HEN
      have ho1h := Lib.hid ho1
      clear ho1
      go_wp2_with fail
      refine (HEN.out _ Br.out).mono ?_
      rintro e w1 ⟨rfl, hb1⟩
      have hz1 := hb1.size
      have B1 := Lib.hid (bel_trans Br.out hb1)
      skip
      have hs1 : w.heap.size ≤ w1.heap.size := by omega
      clear Br hsr hb1 hz1
      cases o1
      · have HR := Lib.hid (show false = qb from by rw [← HP.out, HX.out]; simp [allV, ho1h.out.symm])
        go_wp2
        go_ret
        exact ⟨ret_bool HR.out, B1.out⟩
      have HP := Lib.hid (show allV (D.drop (k + 1)) = qb from by rw [← HP.out, HX.out]; simp [allV, ho1h.out.symm])
      go_wp2
      go_roundw
      case rel => exact ⟨k + 1, by omega, by go_num, B1.out, HP⟩
      case measure => simp [intOf]; omega
    · have HR := Lib.hid (show true = qb from by rw [← HP.out, rows_end HO.out hlt]; rfl)
      go_wp2
      go_ret
      exact ⟨ret_bool HR.out, Br.out⟩
set_option maxRecDepth 100000 in
set_option maxHeartbeats 3200000 in
/-- What Takes tells. -/
def takesR (i : Inv) (e : Ety) : Bool × Int := if (mayIn i && mayEn e) = true then (takeB i e, 0) else (false, 1)
theorem takesC (i : Inv) (e : Ety) (w : World) :
    Calls Try.prog 14 #[invV i, entV e] w fun q w' => q = .returned (.tuple #[.bool (takesR i e).1, .int .i64 (takesR i e).2]) ∧ Below w.heap.size w w' := by
  have HM := Lib.hid (fun b W (hR : RowsAt KI W (some ⟨b, 0, none⟩) [i]) => maybe_any (some ⟨b, 0, none⟩) 1 1 [i] W hR rfl (by decide) (Nat.le_refl _) (by decide))
  have HR := Lib.hid (fun W => recmay_any e W)
  have HT := Lib.hid (fun b W (h1 : mayEn e = true) (h2 : mayIn i = true) (hR : RowsAt KI W (some ⟨b, 0, none⟩) [i]) => taken_any e (some ⟨b, 0, none⟩) 1 1 [i] W h1 (by simp [allV, h2]) hR rfl (by decide))
  rw [show allV [i] = mayIn i from by simp [allV]] at HM
  rw [show anyT e [i] = takeB i e from by simp [anyT]] at HT
  unfold takesR
  generalize mayIn i = mi at *
  generalize mayEn e = me at *
  generalize takeB i e = ti at *
  unfold invV invC entV entC at *
  have htw : w.heap.size ≤ w.heap.size := Nat.le_refl _
  have B0 := Lib.hid (Below.refl w.heap.size w)
  go_enter Try.func14, Try.ntmps14
  go_upto_region 1 with fail
  have I1 := Lib.hid (((BoxAt.newAt (w) #[.int .i64 i.k, .int .i64 i.vm, .int .i64 i.sp, .int .i64 i.pg] 32 (w.heap.size) (by first | omega | (simp; done) | (simp; omega))).alloc (.cells #[.int .i64 e.k, .int .i64 e.vm, .int .i64 e.sp, .bool e.al, .int .i64 e.pg, .int .i64 e.lv, .int .i64 e.fr, .int .i64 e.mi, .bool e.t.r, .bool e.t.w, .bool e.t.x, .bool e.t.a, .bool e.t.n, .int .i64 e.t.s] 36)))
  have E1 := Lib.hid ((BoxAt.newAt ((w).alloc (.cells #[.int .i64 i.k, .int .i64 i.vm, .int .i64 i.sp, .int .i64 i.pg] 32)) #[.int .i64 e.k, .int .i64 e.vm, .int .i64 e.sp, .bool e.al, .int .i64 e.pg, .int .i64 e.lv, .int .i64 e.fr, .int .i64 e.mi, .bool e.t.r, .bool e.t.w, .bool e.t.x, .bool e.t.a, .bool e.t.n, .int .i64 e.t.s] 36 (w.heap.size + 1) (by first | omega | (simp; done) | (simp; omega))))
  have B1 := Lib.hid ((bel_alloc (bel_alloc B0.out (.cells #[.int .i64 i.k, .int .i64 i.vm, .int .i64 i.sp, .int .i64 i.pg] 32)) (.cells #[.int .i64 e.k, .int .i64 e.vm, .int .i64 e.sp, .bool e.al, .int .i64 e.pg, .int .i64 e.lv, .int .i64 e.fr, .int .i64 e.mi, .bool e.t.r, .bool e.t.w, .bool e.t.x, .bool e.t.a, .bool e.t.n, .int .i64 e.t.s] 36)))
  obtain ⟨g1, hg1⟩ : ∃ g1, g1 = w.heap.size := ⟨_, rfl⟩
  obtain ⟨W1, hW1⟩ : ∃ W1, W1 = ((w).alloc (.cells #[.int .i64 i.k, .int .i64 i.vm, .int .i64 i.sp, .int .i64 i.pg] 32)).alloc (.cells #[.int .i64 e.k, .int .i64 e.vm, .int .i64 e.sp, .bool e.al, .int .i64 e.pg, .int .i64 e.lv, .int .i64 e.fr, .int .i64 e.mi, .bool e.t.r, .bool e.t.w, .bool e.t.x, .bool e.t.a, .bool e.t.n, .int .i64 e.t.s] 36) := ⟨_, rfl⟩
  have hs1 : g1 + 1 + 1 ≤ W1.heap.size := by rw [hW1, hg1]; simp
  rw [← hW1] at I1 E1 B1 ⊢
  have hb1 : w.heap.size ≤ g1 := by omega
  rw [← hg1] at I1 E1 ⊢
  clear hg1
  clear hW1 B0
  have Ec0 := E1.out.get 0 (.int .i64 e.k) rfl
  have Ec1 := E1.out.get 1 (.int .i64 e.vm) rfl
  have Ec2 := E1.out.get 2 (.int .i64 e.sp) rfl
  have Ec3 := E1.out.get 3 (.bool e.al) rfl
  have Ec4 := E1.out.get 4 (.int .i64 e.pg) rfl
  have Ec5 := E1.out.get 5 (.int .i64 e.lv) rfl
  have Ec6 := E1.out.get 6 (.int .i64 e.fr) rfl
  have Ec7 := E1.out.get 7 (.int .i64 e.mi) rfl
  have Ec8 := E1.out.get 8 (.bool e.t.r) rfl
  have Ec9 := E1.out.get 9 (.bool e.t.w) rfl
  have Ec10 := E1.out.get 10 (.bool e.t.x) rfl
  have Ec11 := E1.out.get 11 (.bool e.t.a) rfl
  have Ec12 := E1.out.get 12 (.bool e.t.n) rfl
  have Ec13 := E1.out.get 13 (.int .i64 e.t.s) rfl
  go_upto_region 2 with fail
  clear Ec0 Ec1 Ec2 Ec3 Ec4 Ec5 Ec6 Ec7 Ec8 Ec9 Ec10 Ec11 Ec12 Ec13
  have I2 := Lib.hid ((I1.out.alloc (.cells #[.int .i64 e.k, .int .i64 e.vm, .int .i64 e.sp, .bool e.al, .int .i64 e.pg, .int .i64 e.lv, .int .i64 e.fr, .int .i64 e.mi, .bool e.t.r, .bool e.t.w, .bool e.t.x, .bool e.t.a, .bool e.t.n, .int .i64 e.t.s] 65)))
  have E2 := Lib.hid ((E1.out.alloc (.cells #[.int .i64 e.k, .int .i64 e.vm, .int .i64 e.sp, .bool e.al, .int .i64 e.pg, .int .i64 e.lv, .int .i64 e.fr, .int .i64 e.mi, .bool e.t.r, .bool e.t.w, .bool e.t.x, .bool e.t.a, .bool e.t.n, .int .i64 e.t.s] 65)))
  have R2 := Lib.hid ((BoxAt.newAt (W1) #[.int .i64 e.k, .int .i64 e.vm, .int .i64 e.sp, .bool e.al, .int .i64 e.pg, .int .i64 e.lv, .int .i64 e.fr, .int .i64 e.mi, .bool e.t.r, .bool e.t.w, .bool e.t.x, .bool e.t.a, .bool e.t.n, .int .i64 e.t.s] 65 (W1.heap.size) (by first | omega | (simp; done) | (simp; omega))))
  have B2 := Lib.hid ((bel_alloc B1.out (.cells #[.int .i64 e.k, .int .i64 e.vm, .int .i64 e.sp, .bool e.al, .int .i64 e.pg, .int .i64 e.lv, .int .i64 e.fr, .int .i64 e.mi, .bool e.t.r, .bool e.t.w, .bool e.t.x, .bool e.t.a, .bool e.t.n, .int .i64 e.t.s] 65)))
  obtain ⟨g2, hg2⟩ : ∃ g2, g2 = W1.heap.size := ⟨_, rfl⟩
  obtain ⟨W2, hW2⟩ : ∃ W2, W2 = (W1).alloc (.cells #[.int .i64 e.k, .int .i64 e.vm, .int .i64 e.sp, .bool e.al, .int .i64 e.pg, .int .i64 e.lv, .int .i64 e.fr, .int .i64 e.mi, .bool e.t.r, .bool e.t.w, .bool e.t.x, .bool e.t.a, .bool e.t.n, .int .i64 e.t.s] 65) := ⟨_, rfl⟩
  have hs2 : g2 + 1 ≤ W2.heap.size := by rw [hW2, hg2]; simp
  rw [← hW2] at I2 E2 R2 B2 ⊢
  have hb2 : g1 + 1 + 1 ≤ g2 := by omega
  rw [← hg2] at R2 ⊢
  clear hg2
  clear hW2 I1 E1 B1 hs1
  have Ic0 := I2.out.get 0 (.int .i64 i.k) rfl
  have Ic1 := I2.out.get 1 (.int .i64 i.vm) rfl
  have Ic2 := I2.out.get 2 (.int .i64 i.sp) rfl
  have Ic3 := I2.out.get 3 (.int .i64 i.pg) rfl
  go_wp2_with fail
  refine (HM.out (W2.heap.size) _ (RowsAt.one (K := KI) (q := i) ((BoxAt.newAt (W2) #[.int .i64 i.k, .int .i64 i.vm, .int .i64 i.sp, .int .i64 i.pg] 32 (W2.heap.size) (by first | omega | (simp; done) | (simp; omega)))))).mono ?_
  rintro e w3 ⟨rfl, hb3⟩
  obtain ⟨g3, hg3⟩ : ∃ g3, g3 = W2.heap.size := ⟨_, rfl⟩
  have hz3 := hb3.size
  have I3 := Lib.hid ((I2.out.alloc (.cells #[.int .i64 i.k, .int .i64 i.vm, .int .i64 i.sp, .int .i64 i.pg] 32)).below hb3)
  have E3 := Lib.hid ((E2.out.alloc (.cells #[.int .i64 i.k, .int .i64 i.vm, .int .i64 i.sp, .int .i64 i.pg] 32)).below hb3)
  have R3 := Lib.hid ((R2.out.alloc (.cells #[.int .i64 i.k, .int .i64 i.vm, .int .i64 i.sp, .int .i64 i.pg] 32)).below hb3)
  have S103 := Lib.hid ((BoxAt.newAt (W2) #[.int .i64 i.k, .int .i64 i.vm, .int .i64 i.sp, .int .i64 i.pg] 32 (W2.heap.size) (by first | omega | (simp; done) | (simp; omega))).below hb3)
  have B3 := Lib.hid (bel_trans (bel_alloc B2.out (.cells #[.int .i64 i.k, .int .i64 i.vm, .int .i64 i.sp, .int .i64 i.pg] 32)) hb3)
  try simp at hz3
  have hs3 : g3 + 1 ≤ w3.heap.size := by omega
  have hb'3 : g2 + 1 ≤ g3 := by omega
  rw [← hg3] at S103
  try rw [← hg3]
  clear hg3
  clear Ic0 Ic1 Ic2 Ic3
  clear I2 E2 R2 B2 hs2 hb3 hz3
  cases hq4 : mi
  · go_wp2
    all_goals
      go_ret2
      exact ⟨by first | rfl | (simp [hq4]; done), B3.out⟩
  have Rc0 := R3.out.get 0 (.int .i64 e.k) rfl
  have Rc1 := R3.out.get 1 (.int .i64 e.vm) rfl
  have Rc2 := R3.out.get 2 (.int .i64 e.sp) rfl
  have Rc3 := R3.out.get 3 (.bool e.al) rfl
  have Rc4 := R3.out.get 4 (.int .i64 e.pg) rfl
  have Rc5 := R3.out.get 5 (.int .i64 e.lv) rfl
  have Rc6 := R3.out.get 6 (.int .i64 e.fr) rfl
  have Rc7 := R3.out.get 7 (.int .i64 e.mi) rfl
  have Rc8 := R3.out.get 8 (.bool e.t.r) rfl
  have Rc9 := R3.out.get 9 (.bool e.t.w) rfl
  have Rc10 := R3.out.get 10 (.bool e.t.x) rfl
  have Rc11 := R3.out.get 11 (.bool e.t.a) rfl
  have Rc12 := R3.out.get 12 (.bool e.t.n) rfl
  have Rc13 := R3.out.get 13 (.int .i64 e.t.s) rfl
  go_wp2_with fail
  refine (HR.out _).mono ?_
  rintro e w5 ⟨rfl, hb5⟩
  have hz5 := hb5.size
  have I5 := Lib.hid (I3.out.below hb5)
  have E5 := Lib.hid (E3.out.below hb5)
  have R5 := Lib.hid (R3.out.below hb5)
  have S105 := Lib.hid (S103.out.below hb5)
  have B5 := Lib.hid (bel_trans B3.out hb5)
  skip
  have hs5 : g3 + 1 ≤ w5.heap.size := by omega
  clear Rc0 Rc1 Rc2 Rc3 Rc4 Rc5 Rc6 Rc7 Rc8 Rc9 Rc10 Rc11 Rc12 Rc13
  clear I3 E3 R3 S103 B3 hs3 hb5 hz5
  cases hq6 : me
  · go_wp2
    all_goals
      go_ret2
      exact ⟨by first | rfl | (simp [hq4, hq6]; done), B5.out⟩
  have Rc0 := R5.out.get 0 (.int .i64 e.k) rfl
  have Rc1 := R5.out.get 1 (.int .i64 e.vm) rfl
  have Rc2 := R5.out.get 2 (.int .i64 e.sp) rfl
  have Rc3 := R5.out.get 3 (.bool e.al) rfl
  have Rc4 := R5.out.get 4 (.int .i64 e.pg) rfl
  have Rc5 := R5.out.get 5 (.int .i64 e.lv) rfl
  have Rc6 := R5.out.get 6 (.int .i64 e.fr) rfl
  have Rc7 := R5.out.get 7 (.int .i64 e.mi) rfl
  have Rc8 := R5.out.get 8 (.bool e.t.r) rfl
  have Rc9 := R5.out.get 9 (.bool e.t.w) rfl
  have Rc10 := R5.out.get 10 (.bool e.t.x) rfl
  have Rc11 := R5.out.get 11 (.bool e.t.a) rfl
  have Rc12 := R5.out.get 12 (.bool e.t.n) rfl
  have Rc13 := R5.out.get 13 (.int .i64 e.t.s) rfl
  have Ic0 := I5.out.get 0 (.int .i64 i.k) rfl
  have Ic1 := I5.out.get 1 (.int .i64 i.vm) rfl
  have Ic2 := I5.out.get 2 (.int .i64 i.sp) rfl
  have Ic3 := I5.out.get 3 (.int .i64 i.pg) rfl
  go_wp2_with fail
  refine (HT.out (w5.heap.size) _ (by first | trivial | rfl) (by first | trivial | rfl) (RowsAt.one (K := KI) (q := i) ((BoxAt.newAt (w5) #[.int .i64 i.k, .int .i64 i.vm, .int .i64 i.sp, .int .i64 i.pg] 32 (w5.heap.size) (by first | omega | (simp; done) | (simp; omega)))))).mono ?_
  rintro e w7 ⟨rfl, hb7⟩
  obtain ⟨g7, hg7⟩ : ∃ g7, g7 = w5.heap.size := ⟨_, rfl⟩
  have hz7 := hb7.size
  have I7 := Lib.hid ((I5.out.alloc (.cells #[.int .i64 i.k, .int .i64 i.vm, .int .i64 i.sp, .int .i64 i.pg] 32)).below hb7)
  have E7 := Lib.hid ((E5.out.alloc (.cells #[.int .i64 i.k, .int .i64 i.vm, .int .i64 i.sp, .int .i64 i.pg] 32)).below hb7)
  have R7 := Lib.hid ((R5.out.alloc (.cells #[.int .i64 i.k, .int .i64 i.vm, .int .i64 i.sp, .int .i64 i.pg] 32)).below hb7)
  have S107 := Lib.hid ((S105.out.alloc (.cells #[.int .i64 i.k, .int .i64 i.vm, .int .i64 i.sp, .int .i64 i.pg] 32)).below hb7)
  have S207 := Lib.hid ((BoxAt.newAt (w5) #[.int .i64 i.k, .int .i64 i.vm, .int .i64 i.sp, .int .i64 i.pg] 32 (w5.heap.size) (by first | omega | (simp; done) | (simp; omega))).below hb7)
  have B7 := Lib.hid (bel_trans (bel_alloc B5.out (.cells #[.int .i64 i.k, .int .i64 i.vm, .int .i64 i.sp, .int .i64 i.pg] 32)) hb7)
  try simp at hz7
  have hs7 : g7 + 1 ≤ w7.heap.size := by omega
  have hb'7 : g3 + 1 ≤ g7 := by omega
  rw [← hg7] at S207
  try rw [← hg7]
  clear hg7
  clear Rc0 Rc1 Rc2 Rc3 Rc4 Rc5 Rc6 Rc7 Rc8 Rc9 Rc10 Rc11 Rc12 Rc13 Ic0 Ic1 Ic2 Ic3
  clear I5 E5 R5 S105 B5 hs5 hb7 hz7
  go_wp2
  all_goals
    go_ret2
    exact ⟨by first | rfl | (simp [hq4, hq6]; done), B7.out⟩
end Go.Proofs.Ytjohnpbfdpmajaa
