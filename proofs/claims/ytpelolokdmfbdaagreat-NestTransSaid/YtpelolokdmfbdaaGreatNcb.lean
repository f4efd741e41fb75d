/- Package nest's trip: small calls, look, land, pass: contracts. -/
import Derived.Test.YtpelolokdmfbdaaGreatNca
import Derived.Test.YtpelolokdmfbdaaGreatRh
import Derived.Test.YtpelolokdmfbdaaGreatPn
import Derived.Deep.RegionLawGrows
namespace Go.Proofs.YtpelolokdmfbdaaGreat
open Go.ChangeShapes Go.WideShapes Go.ChangeAt Go.RowKit Go.Deep

theorem step_pushIn {w : World} {ops : Array Oper} {o : Oper} {a : Act} {K : Act → World → Prop} {Q : Exit → Act → World → Prop} {E : Prop} (hgd : o.guard = none) (s x : Operand)
    (ho : o.op = .call { callee := .builtin .append, args := #[s, x], argTypes := #[25, 25] })
    (base n : Nat) (v : Value) (L : List Int) (hs : a.eval s = v) (hown : OwnI w base v L) (hn : n = L.length)
    (b c : Nat) (y : Int) (hx : a.eval x = .slice (some ⟨b, 0, none⟩) 1 c) (hy : w.cell? ⟨b, 0, none⟩ = some (.int .i64 y)) (hk : n ≤ 100000) (hbase : base ≤ w.heap.size)
    (h : ∀ f' c' w', OwnI w' base (.slice f' (n + 1) c') (L ++ [y]) → w.grownBy w' v.ownBlock → K (a.put o.dst (.slice f' (n + 1) c')) w') : if Region.wanted o (yielded ops a.tmps) = true then Oper.wp Tryz.prog o a w K Q else E := by
  subst hn
  exact step_pushI hgd s x ho base v L hs hown b c y hx hy hk hbase h
/-- 'append(s, x)' where it must grow: nothing that was there is written. -/
theorem wpList_growR {QT : Type} {K : RowK QT} {w : World} {ops : Array Oper} {rest : List Oper} {o : Oper} {a : Act} {QQ : Exit → Act → World → Prop} (hgd : o.guard = none) (s x : Operand)
    (ho : o.op = .call { callee := .builtin .append, args := #[s, x], argTypes := #[K.ts, K.ts] })
    (f : Option Addr) (n : Nat) (L : List QT) (hs : a.eval s = .slice f n n) (hn : n = L.length) (hf : f = none → n = 0)
    (hL : ∀ b, f = some b → ∀ j u, (rcells K L)[j]? = some u → w.cell? (b.add j) = some u)
    (b c : Nat) (y : QT) (hx : a.eval x = .slice (some ⟨b, 0, none⟩) 1 c) (hy : ∀ i, i < K.N → w.cell? ⟨b, i, none⟩ = (K.V y)[i]?) (hk : n ≤ 100000)
    (h : ∀ f' c' w', OwnR K w' w.heap.size (.slice f' (n + 1) c') (L ++ [y]) → Below w.heap.size w w' → wpList Tryz.prog ops QQ rest (a.put o.dst (.slice f' (n + 1) c')) w') : wpList Tryz.prog ops QQ (o :: rest) a w :=
  wpList_plain hgd fun KK hK => by
    subst hn
    have hw : Region.wanted o (yielded ops a.tmps) = true := by simp [Region.wanted, hgd]
    obtain ⟨i0, hi, hz0, hz1, hz2⟩ := info_parts K.info
    have hsm := K.small
    have := step_append_grows (P := Tryz.prog) (ops := ops) (E := False) (K := KK) (Q := QQ) (w := w) hgd s x K.ts ho K.t i0 K.z K.N K.B K.under hi hz0 hz1 hz2 K.zs K.pos f L.length L.length (rcells K L) hs (fun e => ⟨hf e, hf e⟩) (rcells_length K L) hL
      ⟨b, 0, none⟩ 1 c (K.V y).toList hx (by rw [Array.length_toList, K.size, Nat.one_mul]) (by
        intro t v hv
        have ht : t < K.N := by
          have := (List.getElem?_eq_some_iff.1 hv).1
          rwa [Array.length_toList, K.size] at this
        rw [Array.getElem?_toList] at hv
        rw [add_none, Nat.zero_add, hy t ht]
        exact hv) (K.one y) (by omega) (by unfold maxLen; omega) (by
        have := Nat.mul_le_mul (show L.length + 1 ≤ 100001 by omega) hsm
        omega) (by
        intro v' w' hown' hgrow
        have hO : OwnR K w' w.heap.size v' (L ++ [y]) := by
          unfold OwnR
          rw [rcells_append, List.length_append]
          simpa [rcells] using hown'
        obtain ⟨f', c', rfl, _⟩ := hO.form
        have e1 : (L ++ [y]).length = L.length + 1 := by simp
        rw [e1] at hO
        have hb : Below w.heap.size w w' := (Below.refl _ _).grown hgrow (Nat.le_refl _) (fun k hk => by cases hk)
        rw [e1]
        exact hK _ _ (h f' c' w' hO hb))
    rwa [if_pos hw] at this
theorem rows_one {QT : Type} {K : RowK QT} {w : World} {b : Nat} {t : QT} (h : BoxAt w b (K.V t) K.t) : ∀ x, some (⟨b, 0, none⟩ : Addr) = some x → ∀ j u, (rcells K [t])[j]? = some u → w.cell? (x.add j) = some u := by
  intro x hx j u hu
  obtain rfl := Option.some.inj hx
  rw [add_none, Nat.zero_add]
  refine h.get j u ?_
  simpa [rcells] using hu
theorem ngoTo_any (f : Option Addr) (l c : Nat) (on : Bool) (tf tg : Int) (on1 : Bool) (of1 og1 pg acc1 cur lv : Int) (rd : Value) (a b : Int) (tb : Nat) (w : World) (hT : BoxAt w tb #[.slice f l c, .bool on, .int .i64 tf, .int .i64 tg, rd, .bool on1, .int .i64 of1, .int .i64 og1, .int .i64 pg, .int .i64 acc1, .int .i64 cur, .int .i64 lv] 68) :
    Calls Tryz.prog 45 #[.pointer (some ⟨tb, 0, none⟩), .int .i64 a, .int .i64 b] w fun e w' => e = .returned (.tuple #[]) ∧ w' = (w.setCell ⟨tb, 11, none⟩ (.int .i64 a)).setCell ⟨tb, 10, none⟩ (.int .i64 b) := by
  have c11 := hT.get 11 (.int .i64 lv) rfl
  have c10 := hT.get 10 (.int .i64 cur) rfl
  have z11 := hT.free 11
  have z10 := hT.free 10
  clear hT
  go_enter Tryz.func45, Tryz.ntmps45
  go_wp2
  go_end0
  exact ⟨rfl, rfl⟩
theorem nwithin_any (f : Option Addr) (l c : Nat) (on : Bool) (tf tg : Int) (on1 : Bool) (of1 og1 pg acc1 cur lv : Int) (rd : Value) (tb : Nat) (w : World) (hT : BoxAt w tb #[.slice f l c, .bool on, .int .i64 tf, .int .i64 tg, rd, .bool on1, .int .i64 of1, .int .i64 og1, .int .i64 pg, .int .i64 acc1, .int .i64 cur, .int .i64 lv] 68) (h0 : 0 ≤ lv) (h1 : lv ≤ 3) (p0 : 0 ≤ pg) :
    Calls Tryz.prog 78 #[.pointer (some ⟨tb, 0, none⟩)] w fun e w' => e = .returned (.int .i64 (pg % cov lv)) ∧ w = w' := by
  have HC := Lib.hid (fun W => dcovers_yes lv W (numB_iff.2 ⟨h0, h1⟩))
  have c11 := hT.get 11 (.int .i64 lv) rfl
  have c8 := hT.get 8 (.int .i64 pg) rfl
  have hc := cov_pos lv
  have hc1 : (0 : Int) ≤ cov lv := by omega
  have hn : (cov lv == 0) = false := by rw [beq_int]; exact decide_eq_false (by omega)
  have hn0 : cov lv ≠ 0 := by omega
  clear hT
  generalize cov lv = m at *
  go_enter Tryz.func78, Tryz.ntmps78
  go_wp2_with fail
  refine (HC.out _).mono ?_
  rintro e w1 ⟨rfl, rfl⟩
  go_wp2
  go_ret
  exact ⟨by first | rfl | (rw [Int.tmod_eq_emod_of_nonneg p0]), rfl⟩
/-- What a look tells: the table's descriptor, or why it may not be read. -/
def lookD (l : Nat) (X : Nat → BitVec 64) (on : Bool) (tf pg cur lv : Int) : Dsc × Flt × List Int :=
  if (midD l X on tf cur 0).2.1.k = 0 then (tblD X 1 lv (midD l X on tf cur 0).1.f pg, flt0, (midD l X on tf cur 0).2.2 ++ [(midD l X on tf cur 0).1.f])
  else (dz, ⟨(midD l X on tf cur 0).2.1.k, (midD l X on tf cur 0).2.1.st, (midD l X on tf cur 0).2.1.lv, true, (midD l X on tf cur 0).2.1.p⟩, (midD l X on tf cur 0).2.2)
def LookN (f : Option Addr) (l c : Nat) (on : Bool) (tf tg : Int) (on1 : Bool) (of1 og1 pg acc1 cur lv : Int) (tb B : Nat) (R : List Int) (q : Dsc × Flt × List Int) (w : World) (e : Ending) (w' : World) : Prop :=
  ∃ f2 c2, e = .returned (.tuple #[dscV q.1, fltV q.2.1]) ∧ BoxAt w' tb #[.slice f l c, .bool on, .int .i64 tf, .int .i64 tg, .slice f2 (R ++ q.2.2).length c2, .bool on1, .int .i64 of1, .int .i64 og1, .int .i64 pg, .int .i64 acc1, .int .i64 cur, .int .i64 lv] 68 ∧ OwnI w' B (.slice f2 (R ++ q.2.2).length c2) (R ++ q.2.2) ∧ Kep tb B [3] w w'
set_option maxRecDepth 100000 in
set_option maxHeartbeats 3200000 in
theorem nlook_any (f : Option Addr) (l c : Nat) (X : Nat → BitVec 64) (on : Bool) (tf tg : Int) (on1 : Bool) (of1 og1 pg acc1 cur lv : Int) (f' : Option Addr) (c' : Nat) (R : List Int) (tb B : Nat) (w0 w : World) (hX : WordsAt w0 f l X) (hlc : l ≤ c) (hM : okM l = true) (t0 : 0 ≤ tf) (t1 : tf ≤ 4095)
    (hB0 : Below w0.heap.size w0 w) (h0 : w0.heap.size ≤ tb) (hBw : B ≤ w.heap.size) (htB : tb < B) (hO : OwnI w B (.slice f' R.length c') R) (hk : R.length ≤ 50) (m0 : 0 ≤ cur) (m1 : cur ≤ 4095) (p0 : 0 ≤ pg) (p1 : pg ≤ 4095) (g0 : 0 ≤ lv) (g3 : lv ≤ 3) (hT : BoxAt w tb #[.slice f l c, .bool on, .int .i64 tf, .int .i64 tg, .slice f' R.length c', .bool on1, .int .i64 of1, .int .i64 og1, .int .i64 pg, .int .i64 acc1, .int .i64 cur, .int .i64 lv] 68) :
    Calls Tryz.prog 59 #[.pointer (some ⟨tb, 0, none⟩)] w (LookN f l c on tf tg on1 of1 og1 pg acc1 cur lv tb B R (lookD l X on tf pg cur lv) w) := by
  have HR := Lib.hid (fun W hB0 hBw hO hT => nreachT_any f l c X on tf tg on1 of1 og1 pg acc1 cur lv cur 0 f' c' R tb B w0 W (by decide) hX hlc hM t0 t1 m0 m1 hB0 h0 hBw htB hO (by omega) hT)
  have HIF := Lib.hid (fun fk fs fl fw fp W => nfault_any ⟨fk, fs, fl, fw, fp⟩ W)
  unfold fltV at HIF
  simp only at HIF
  have hcs := mid_cases l X on tf cur 0 t0 m0
  have HTB := Lib.hid (fun fr (hf0 : 0 ≤ fr) (hf1 : fr < (l : Int) / 8) W (hW : WordsAt W f l X) => tableC f l c X 1 lv fr pg W (by have := (okM_true hM); omega) hlc hW)
  have HTA := Lib.hid (show ∀ fr, 0 ≤ fr → fr < (l : Int) / 8 → tableA l X 1 lv fr pg = (tblD X 1 lv fr pg, 0) from by
    intro fr hf0 hf1
    unfold tableA
    have e1 : numB fr ((l : Int) / 8 - 1) = true := numB_iff.2 ⟨hf0, by omega⟩
    have e2 : placeB 1 lv = true := placeB_iff.2 ⟨Or.inl rfl, g0, g3⟩
    have e3 : numB pg 4095 = true := numB_iff.2 ⟨p0, p1⟩
    simp [hM, e1, e2, e3])
  have T0 := Lib.hid hT
  have O0 := Lib.hid hO
  have HB0 := Lib.hid hB0
  have HX := Lib.hid hX
  have K0 := Lib.hid (Kep.refl (tb := tb) (B := B) (ow := [3]) w)
  clear hX hB0 hT hO
  clear t0 t1 m0 m1 hlc hM p0 p1 g0 g3
  unfold lookD
  generalize midD l X on tf cur 0 = q at *
  obtain ⟨⟨hf, hm, ⟨hr, hw, hx, ha, hn, hs⟩, hl⟩, ⟨fk, fs, fl, fw, fp⟩, Q⟩ := q
  simp only at hcs ⊢
  obtain ⟨hq4, _, hcs⟩ := hcs
  by_cases hk0 : fk = 0
  · rw [if_pos hk0]
    have df : (fk != 0) = false := by rw [hk0]; rfl
    have hff : 0 ≤ hf ∧ hf < (l : Int) / 8 := by
      rcases hcs with ⟨_, h1, h2⟩ | ⟨h1, _⟩
      · exact ⟨h1, h2⟩
      · exact absurd hk0 h1
    have HTD := Lib.hid (HTB.out hf hff.1 hff.2)
    rw [HTA.out hf hff.1 hff.2] at HTD
    clear hk0 HTB HTA hff hcs
    generalize tblD X 1 lv hf pg = d at *
    obtain ⟨dk, df, dr, dw, dx, da, dn, ds, d0⟩ := d
    unfold dscV at HTD
    simp only at HTD
    go_enter Tryz.func59, Tryz.ntmps59
    go_upto_region 1 with fail
    have T1 := Lib.hid (((T0.out.alloc (.cells z9 73)).alloc (.cells z5 38)))
    have D1 := Lib.hid (((BoxAt.newAt (w) z9 73 (w.heap.size) (by first | omega | (simp; done) | (simp; omega))).alloc (.cells z5 38)))
    have F1 := Lib.hid ((BoxAt.newAt ((w).alloc (.cells z9 73)) z5 38 (w.heap.size + 1) (by first | omega | (simp; done) | (simp; omega))))
    have O1 := Lib.hid (((O0.out.alloc (.cells z9 73)).alloc (.cells z5 38)))
    have B1 := Lib.hid ((bel_alloc (bel_alloc HB0.out (.cells z9 73)) (.cells z5 38)))
    have K1 := Lib.hid (((K0.out.alloc (.cells z9 73)).alloc (.cells z5 38)))
    obtain ⟨g1, hg1⟩ : ∃ g1, g1 = w.heap.size := ⟨_, rfl⟩
    obtain ⟨W1, hW1⟩ : ∃ W1, W1 = ((w).alloc (.cells z9 73)).alloc (.cells z5 38) := ⟨_, rfl⟩
    have hs1 : g1 + 1 + 1 ≤ W1.heap.size := by rw [hW1, hg1]; simp
    rw [← hW1] at T1 D1 F1 O1 B1 K1 ⊢
    have hb1 : w.heap.size ≤ g1 := by omega
    rw [← hg1] at D1 F1 ⊢
    clear hg1
    clear hW1 T0 O0 HB0 K0
    have hcs : g1 + 1 + 1 ≤ W1.heap.size := by omega
    refine wp_region_table (X := Option Addr × Nat) (none, 0) (I0 := fun w' => Below W1.heap.size W1 w') (I1 := fun xJ w' => Kep tb (B) [3] W1 w' ∧ BoxAt w' tb #[.slice f l c, .bool on, .int .i64 tf, .int .i64 tg, .slice xJ.1 (R.length + Q.length) xJ.2, .bool on1, .int .i64 of1, .int .i64 og1, .int .i64 pg, .int .i64 acc1, .int .i64 cur, .int .i64 lv] 68 ∧ OwnI w' (B) (.slice xJ.1 (R.length + Q.length) xJ.2) (R ++ Q)) (lo := W1.heap.size) (c := 7) (U := [⟨(some 9), .con (.pointer (some ⟨tb, 0, none⟩))⟩, ⟨(some 10), .con (.pointer (some ⟨tb, 0, none⟩))⟩, ⟨(some 11), .con (.pointer (some ⟨tb, 0, none⟩))⟩, ⟨(some 12), .con (.pointer (some ⟨tb, 0, none⟩))⟩, ⟨(some 13), .con (.pointer (some ⟨tb, 0, none⟩))⟩, ⟨(some 14), .con (.pointer (some ⟨tb, 10, none⟩))⟩, ⟨(some 15), .ld (.int .i64 cur)⟩, ⟨(some 16), .cal fun xJ => .tuple #[.agg #[.int .i64 hf, .int .i64 hm, .bool hr, .bool hw, .bool hx, .bool ha, .bool hn, .int .i64 hs, .int .i64 hl], .agg #[.int .i64 fk, .int .i64 fs, .int .i64 fl, .bool fw, .int .i64 fp]]⟩, ⟨(some 8), .res fun xJ => .tuple #[.agg #[.int .i64 hf, .int .i64 hm, .bool hr, .bool hw, .bool hx, .bool ha, .bool hn, .int .i64 hs, .int .i64 hl], .agg #[.int .i64 fk, .int .i64 fs, .int .i64 fl, .bool fw, .int .i64 fp]]⟩, ⟨(some 17), .res fun xJ => .agg #[.int .i64 hf, .int .i64 hm, .bool hr, .bool hw, .bool hx, .bool ha, .bool hn, .int .i64 hs, .int .i64 hl]⟩, ⟨(some 18), .res fun xJ => .agg #[.int .i64 fk, .int .i64 fs, .int .i64 fl, .bool fw, .int .i64 fp]⟩, ⟨(some 4), .new 36 #[.int .i64 0, .int .i64 0, .bool false, .bool false, .bool false, .bool false, .bool false, .int .i64 0, .int .i64 0]⟩, ⟨(some 5), .new 38 #[.int .i64 0, .int .i64 0, .int .i64 0, .bool false, .int .i64 0]⟩, ⟨none, .sto 11 fun xJ => #[.int .i64 hf, .int .i64 hm, .bool hr, .bool hw, .bool hx, .bool ha, .bool hn, .int .i64 hs, .int .i64 hl]⟩, ⟨none, .sto 12 fun xJ => #[.int .i64 fk, .int .i64 fs, .int .i64 fl, .bool fw, .int .i64 fp]⟩])
      (V := fun xJ => .tuple #[.agg #[.int .i64 hf, .int .i64 hm, .bool hr, .bool hw, .bool hx, .bool ha, .bool hn, .int .i64 hs, .int .i64 hl], .agg #[.int .i64 fk, .int .i64 fs, .int .i64 fl, .bool fw, .int .i64 fp]]) (f := 25) (args := #[.pointer (some ⟨tb, 0, none⟩), .int .i64 cur, .int .i64 0]) (dc := some 16) (by kernel_rfl) (fun _ _ => rfl) (by kernel_rfl) (by kernel_rfl) rfl
      (AllObl.all ⟨fun _ _ _ => by kernel_rfl, fun _ _ _ => by kernel_rfl, fun _ _ _ => by kernel_rfl, fun _ _ _ => by kernel_rfl, fun _ _ _ => by kernel_rfl, fun _ _ _ => by kernel_rfl, fun _ _ _ hJ => run_ld1 3 (.tmp 14) tb 10 (by kernel_rfl) (by kernel_rfl) Tryz.underlying3 rfl ((T1.out.below hJ).get 10 (.int .i64 cur) rfl), trivial, fun _ _ _ => by kernel_rfl, fun _ _ _ => by kernel_rfl, fun _ _ _ => by kernel_rfl, fun _ _ _ => by kernel_rfl, fun _ _ _ => by kernel_rfl, ⟨_, _, _, rfl, fun _ _ _ hJ => run_stoB 36 (.tmp 4) (.tmp 17) _ (by kernel_rfl) (by kernel_rfl) (by kernel_rfl) (by kernel_rfl) (by rfl) (by simp [Value.oneCell']) hJ⟩, ⟨_, _, _, rfl, fun _ _ _ hJ => run_stoB 38 (.tmp 5) (.tmp 18) _ (by kernel_rfl) (by kernel_rfl) (by kernel_rfl) (by kernel_rfl) (by rfl) (by simp [Value.oneCell']) hJ⟩, trivial⟩)
      (fun _ oJ hJ => bel_alloc hJ oJ) (fun xJ _ oJ hJ => ⟨hJ.1.alloc oJ, hJ.2.1.alloc oJ, hJ.2.2.alloc oJ⟩) (fun xJ _ bJ csJ dsJ tJ iJ zJ dJ hiJ hbJ hxJ hJ => ⟨hJ.1.row bJ dsJ hbJ, hJ.2.1.row (show tb ≠ bJ by omega), hJ.2.2.rowN (hJ.2.2.ne_box hxJ (fun eJ => newsOk_spec (bad := [3]) (by kernel_rfl) hiJ (by rw [eJ]; exact List.mem_cons_self ..)))⟩) (fun _ hJ => hJ.size) (fun xJ _ hJ => hJ.1.size) (fun _ _ _ _ => by kernel_rfl)
      (fun wJ hJ => (HR.out _ (bel_trans B1.out hJ) (by have := hJ.size; first | omega | (simp; done) | (simp; omega)) (O1.out.below hJ) (T1.out.below hJ)).mono (by rintro _ w2J ⟨f, c, rfl, qT, qO, qW⟩; exact ⟨(f, c), rfl, ⟨(Kep.of hJ).trans qW, qT, qO⟩, fun bJ csJ tJ iJ zJ dJ hiJ hlJ hxJ => qW.box hxJ (newsOk_spec (by kernel_rfl) hiJ) (show bJ ≠ tb by omega)⟩)) (Below.drew (Below.refl _ _)) ?_
    rintro ⟨f2, c2⟩ βJ w2c ⟨q2_0, q2_1, q2_2⟩ hNW
    obtain ⟨hbG2, QG2⟩ := hNW.full 11 13 (by kernel_rfl) rfl rfl
    obtain ⟨hbJ2, QJ2⟩ := hNW.full 12 14 (by kernel_rfl) rfl rfl
    have hn2_01 := hNW.ne 11 12 _ _ _ _ _ _ rfl rfl rfl rfl (by decide)
    clear hNW
    simp only [putU, if_true, Act.put, Knd.val, List.setIfInBounds_toArray, List.set_cons_zero, List.set_cons_succ]
    generalize βJ 11 = bG at *
    generalize βJ 12 = bJ at *
    clear βJ
    have hz2 := q2_0.size
    have T2 := Lib.hid (q2_1)
    have D2 := Lib.hid ((q2_0.box D1.out (by decide) (show g1 ≠ tb by omega)))
    have F2 := Lib.hid ((q2_0.box F1.out (by decide) (show g1 + 1 ≠ tb by omega)))
    have O2 := Lib.hid (q2_2)
    have B2 := Lib.hid ((q2_0.under B1.out (by first | omega | (simp; done) | (simp; omega)) (show w0.heap.size ≤ tb by omega) (show w0.heap.size ≤ B by omega)))
    have K2 := Lib.hid ((K1.out.trans q2_0))
    have Gn2 := Lib.hid (QG2)
    have Jn2 := Lib.hid (QJ2)
    obtain ⟨m2, hm2⟩ : ∃ m2, m2 = w2c.heap.size := ⟨_, rfl⟩
    have hbm2 : g1 + 1 + 1 ≤ m2 := by omega
    have hlG2 : bG + 1 ≤ m2 := by rw [hm2]; exact QG2.lt
    have hgG2 : g1 + 1 + 1 ≤ bG := by omega
    have hlJ2 : bJ + 1 ≤ m2 := by rw [hm2]; exact QJ2.lt
    have hgJ2 : g1 + 1 + 1 ≤ bJ := by omega
    have hs2 : m2 ≤ w2c.heap.size := by omega
    clear hm2 hz2 hcs q2_0 q2_1 q2_2 QG2 hbG2 QJ2 hbJ2 T1 D1 F1 O1 B1 K1 hs1
    have Jc0 := Jn2.out.get 0 (.int .i64 fk) rfl
    have Jc1 := Jn2.out.get 1 (.int .i64 fs) rfl
    have Jc2 := Jn2.out.get 2 (.int .i64 fl) rfl
    have Jc3 := Jn2.out.get 3 (.bool fw) rfl
    have Jc4 := Jn2.out.get 4 (.int .i64 fp) rfl
    go_wp2_with fail
    refine (HIF.out _ _ _ _ _ _).mono ?_
    rintro e w3 ⟨rfl, hb3⟩
    have hz3 := hb3.size
    have T3 := Lib.hid (T2.out.below hb3)
    have D3 := Lib.hid (D2.out.below hb3)
    have F3 := Lib.hid (F2.out.below hb3)
    have G3 := Lib.hid (Gn2.out.below hb3)
    have J3 := Lib.hid (Jn2.out.below hb3)
    have O3 := Lib.hid (O2.out.below hb3)
    have B3 := Lib.hid (bel_trans B2.out hb3)
    have K3 := Lib.hid (K2.out.step hb3)
    skip
    have hs3 : m2 ≤ w3.heap.size := by omega
    clear Jc0 Jc1 Jc2 Jc3 Jc4
    clear T2 D2 F2 Gn2 Jn2 O2 B2 K2 hs2 hb3 hz3
    go_upto_region 5 with fail
    refine wp_region_tail [13] (fun _ => True) (fun w' => BoxAt w' (tb) #[.slice f l c, .bool on, .int .i64 tf, .int .i64 tg, .slice f2 (R.length + Q.length) c2, .bool on1, .int .i64 of1, .int .i64 og1, .int .i64 pg, .int .i64 acc1, .int .i64 cur, .int .i64 lv] 68 ∧ BoxAt w' (bG) #[.int .i64 hf, .int .i64 hm, .bool hr, .bool hw, .bool hx, .bool ha, .bool hn, .int .i64 hs, .int .i64 hl] 36) (by kernel_rfl) ?_
    have hS : (fun w' => BoxAt w' (tb) #[.slice f l c, .bool on, .int .i64 tf, .int .i64 tg, .slice f2 (R.length + Q.length) c2, .bool on1, .int .i64 of1, .int .i64 og1, .int .i64 pg, .int .i64 acc1, .int .i64 cur, .int .i64 lv] 68 ∧ BoxAt w' (bG) #[.int .i64 hf, .int .i64 hm, .bool hr, .bool hw, .bool hx, .bool ha, .bool hn, .int .i64 hs, .int .i64 hl] 36) w3.drew := ⟨T3.out.drew, G3.out.drew⟩
    skip
    have T4 := Lib.hid ((T3.out.drew))
    have D4 := Lib.hid ((D3.out.drew))
    have F4 := Lib.hid ((F3.out.drew))
    have G4 := Lib.hid ((G3.out.drew))
    have J4 := Lib.hid ((J3.out.drew))
    have O4 := Lib.hid ((O3.out.drew))
    have B4 := Lib.hid ((Below.drew B3.out))
    have K4 := Lib.hid ((K3.out.drew))
    obtain ⟨W4, hW4⟩ : ∃ W4, W4 = (w3).drew := ⟨_, rfl⟩
    have hs4 : m2 ≤ W4.heap.size := by rw [hW4]; first | exact hs3 | (simp; omega)
    rw [← hW4] at T4 D4 F4 G4 J4 O4 B4 K4 hS ⊢
    clear hW4 T3 D3 F3 G3 J3 O3 B3 K3 hs3
    refine tail_read 0 (oi := ⟨some 24, _, _, _, _, _⟩) (v := ?_) rfl (by kernel_rfl) (by kernel_rfl) (by kernel_rfl) (by kernel_rfl) (fun _ _ _ h => h) ⟨trivial, hS⟩ (Or.inl ⟨by rfl, ?_⟩) ?_
    rotate_left
    · (intro w' hSw; clear hSw; go_simp; try with_reducible rfl)
    simp only [Act.put, List.setIfInBounds_toArray, List.set_cons_zero, List.set_cons_succ]
    refine tail_read 1 (oi := ⟨some 25, _, _, _, _, _⟩) (v := ?_) rfl (by kernel_rfl) (by kernel_rfl) (by kernel_rfl) (by kernel_rfl) (fun _ _ _ h => h) ⟨trivial, hS⟩ (Or.inl ⟨by rfl, ?_⟩) ?_
    rotate_left
    · (intro w' hSw; clear hSw; go_simp; try with_reducible rfl)
    simp only [Act.put, List.setIfInBounds_toArray, List.set_cons_zero, List.set_cons_succ]
    refine tail_read 2 (oi := ⟨some 26, _, _, _, _, _⟩) (v := ?_) rfl (by kernel_rfl) (by kernel_rfl) (by kernel_rfl) (by kernel_rfl) (fun _ _ _ h => h) ⟨trivial, hS⟩ (Or.inl ⟨by rfl, ?_⟩) ?_
    rotate_left
    · (intro w' hSw; clear hSw; go_simp; try with_reducible rfl)
    simp only [Act.put, List.setIfInBounds_toArray, List.set_cons_zero, List.set_cons_succ]
    refine tail_read 3 (oi := ⟨some 27, _, _, _, _, _⟩) (v := ?_) rfl (by kernel_rfl) (by kernel_rfl) (by kernel_rfl) (by kernel_rfl) (fun _ _ _ h => h) ⟨trivial, hS⟩ (Or.inl ⟨by rfl, ?_⟩) ?_
    rotate_left
    · (intro w' hSw; clear hSw; go_simp; try with_reducible rfl)
    simp only [Act.put, List.setIfInBounds_toArray, List.set_cons_zero, List.set_cons_succ]
    refine tail_read 4 (oi := ⟨some 28, _, _, _, _, _⟩) (v := ?_) rfl (by kernel_rfl) (by kernel_rfl) (by kernel_rfl) (by kernel_rfl) (fun _ _ _ h => h) ⟨trivial, hS⟩ (Or.inl ⟨by rfl, ?_⟩) ?_
    rotate_left
    · (intro w' hSw; clear hSw; go_simp; try with_reducible rfl)
    simp only [Act.put, List.setIfInBounds_toArray, List.set_cons_zero, List.set_cons_succ]
    refine tail_chain 5 [9, 10, 11, 12, 13] (oi := ⟨some 29, _, _, _, _, _⟩) (v := ?_) rfl (by kernel_rfl) (by kernel_rfl) (by kernel_rfl) (by kernel_rfl) (fun _ _ _ h => h) ⟨trivial, hS⟩ (Or.inl ⟨by rfl, ?_⟩) ?_
    rotate_left
    · (intro w' hSw; have c0_4 := (hSw.1).get 4 (.slice f2 (R.length + Q.length) c2) rfl; clear hSw; go_simp; try with_reducible rfl)
    simp only [Act.put, List.setIfInBounds_toArray, List.set_cons_zero, List.set_cons_succ]
    refine tail_read 6 (oi := ⟨some 30, _, _, _, _, _⟩) (v := ?_) rfl (by kernel_rfl) (by kernel_rfl) (by kernel_rfl) (by kernel_rfl) (fun _ _ _ h => h) ⟨trivial, hS⟩ (Or.inl ⟨by rfl, ?_⟩) ?_
    rotate_left
    · (intro w' hSw; clear hSw; go_simp; try with_reducible rfl)
    simp only [Act.put, List.setIfInBounds_toArray, List.set_cons_zero, List.set_cons_succ]
    refine tail_chain 7 [8, 9, 10, 11, 12, 13] (oi := ⟨some 31, _, _, _, _, _⟩) (v := ?_) rfl (by kernel_rfl) (by kernel_rfl) (by kernel_rfl) (by kernel_rfl) (fun _ _ _ h => h) ⟨trivial, hS⟩ (Or.inl ⟨by rfl, ?_⟩) ?_
    rotate_left
    · (intro w' hSw; have c1_0 := (hSw.2).get 0 (.int .i64 hf) rfl; clear hSw; go_simp; try with_reducible rfl)
    simp only [Act.put, List.setIfInBounds_toArray, List.set_cons_zero, List.set_cons_succ]
    refine tail_one 8 (o := ⟨some 32, _, _, _, _, _⟩) (by kernel_rfl) rfl (fun K hK => ?_)
    go_simp
    refine hK.out _ _ ?_ (fun hS' => ?_)
    · exact ⟨trivial, ⟨hS.1.alloc _, hS.2.alloc _⟩⟩
    clear hK K hS
    have hS := hS'.2
    clear hS'
    try simp only [Act.put, List.setIfInBounds_toArray, List.set_cons_zero, List.set_cons_succ]
    refine tail_one 9 (o := ⟨some 33, _, _, _, _, _⟩) (by kernel_rfl) rfl (fun K hK => ?_)
    refine step_pushIn rfl _ _ rfl B (R.length + Q.length) _ (R ++ Q) rfl (O4.out.alloc (.cells #[.int .i64 hf] 3)) (by simp) _ 1 hf rfl ((BoxAt.newAt (W4) #[.int .i64 hf] 3 (W4.heap.size) (by first | omega | (simp; done) | (simp; omega))).get 0 (.int .i64 hf) rfl) (by omega) (by first | omega | (simp; done) | (simp; omega)) ?_
    intro f5a c5a w5 hO5 hg5
    have hz5 := hg5.size
    try simp at hz5
    have hSn : (fun w' => BoxAt w' (tb) #[.slice f l c, .bool on, .int .i64 tf, .int .i64 tg, .slice f2 (R.length + Q.length) c2, .bool on1, .int .i64 of1, .int .i64 og1, .int .i64 pg, .int .i64 acc1, .int .i64 cur, .int .i64 lv] 68 ∧ BoxAt w' (bG) #[.int .i64 hf, .int .i64 hm, .bool hr, .bool hw, .bool hx, .bool ha, .bool hn, .int .i64 hs, .int .i64 hl] 36) w5 := ⟨hS.1.grown hg5 ((O4.out.alloc (.cells #[.int .i64 hf] 3)).ne_box (T4.out.alloc (.cells #[.int .i64 hf] 3)) (by decide)), hS.2.grown hg5 ((O4.out.alloc (.cells #[.int .i64 hf] 3)).ne_box (G4.out.alloc (.cells #[.int .i64 hf] 3)) (by decide))⟩
    have T5 := Lib.hid ((T4.out.alloc (.cells #[.int .i64 hf] 3)).grown hg5 ((O4.out.alloc (.cells #[.int .i64 hf] 3)).ne_box (T4.out.alloc (.cells #[.int .i64 hf] 3)) (by decide)))
    have D5 := Lib.hid ((D4.out.alloc (.cells #[.int .i64 hf] 3)).grown hg5 ((O4.out.alloc (.cells #[.int .i64 hf] 3)).ne_box (D4.out.alloc (.cells #[.int .i64 hf] 3)) (by decide)))
    have F5 := Lib.hid ((F4.out.alloc (.cells #[.int .i64 hf] 3)).grown hg5 ((O4.out.alloc (.cells #[.int .i64 hf] 3)).ne_box (F4.out.alloc (.cells #[.int .i64 hf] 3)) (by decide)))
    have G5 := Lib.hid ((G4.out.alloc (.cells #[.int .i64 hf] 3)).grown hg5 ((O4.out.alloc (.cells #[.int .i64 hf] 3)).ne_box (G4.out.alloc (.cells #[.int .i64 hf] 3)) (by decide)))
    have J5 := Lib.hid ((J4.out.alloc (.cells #[.int .i64 hf] 3)).grown hg5 ((O4.out.alloc (.cells #[.int .i64 hf] 3)).ne_box (J4.out.alloc (.cells #[.int .i64 hf] 3)) (by decide)))
    have O5 := Lib.hid (hO5)
    have B5 := Lib.hid ((bel_alloc B4.out (.cells #[.int .i64 hf] 3)).grown hg5 (show w0.heap.size ≤ _ by first | omega | (simp; omega)) (fun k hk => Nat.le_trans (show w0.heap.size ≤ B by omega) ((O4.out.alloc (.cells #[.int .i64 hf] 3)).blk k hk)))
    have K5 := Lib.hid ((K4.out.alloc (.cells #[.int .i64 hf] 3)).grownI (O4.out.alloc (.cells #[.int .i64 hf] 3)) hg5 (by omega) (by decide))
    obtain ⟨g5, hgg5⟩ : ∃ g5, g5 = W4.heap.size := ⟨_, rfl⟩
    have hs5 : g5 + 1 ≤ w5.heap.size := by omega
    have hb5 : m2 ≤ g5 := by omega
    try rw [← hgg5]
    clear hgg5
    clear T4 D4 F4 G4 J4 O4 B4 K4 hg5 hO5 hz5 hs4
    refine hK.out _ _ ?_ (fun hS' => ?_)
    · exact ⟨trivial, hSn⟩
    clear hK K hS hSn
    have hS := hS'.2
    clear hS'
    try simp only [Act.put, List.setIfInBounds_toArray, List.set_cons_zero, List.set_cons_succ]
    refine tail_read 10 (oi := ⟨some 34, _, _, _, _, _⟩) (v := ?_) rfl (by kernel_rfl) (by kernel_rfl) (by kernel_rfl) (by kernel_rfl) (fun _ _ _ h => h) ⟨trivial, hS⟩ (Or.inl ⟨by rfl, ?_⟩) ?_
    rotate_left
    · (intro w' hSw; clear hSw; go_simp; try with_reducible rfl)
    simp only [Act.put, List.setIfInBounds_toArray, List.set_cons_zero, List.set_cons_succ]
    refine tail_read 11 (oi := ⟨some 35, _, _, _, _, _⟩) (v := ?_) rfl (by kernel_rfl) (by kernel_rfl) (by kernel_rfl) (by kernel_rfl) (fun _ _ _ h => h) ⟨trivial, hS⟩ (Or.inl ⟨by rfl, ?_⟩) ?_
    rotate_left
    · (intro w' hSw; clear hSw; go_simp; try with_reducible rfl)
    simp only [Act.put, List.setIfInBounds_toArray, List.set_cons_zero, List.set_cons_succ]
    refine tail_read 12 (oi := ⟨some 36, _, _, _, _, _⟩) (v := ?_) rfl (by kernel_rfl) (by kernel_rfl) (by kernel_rfl) (by kernel_rfl) (fun _ _ _ h => h) ⟨trivial, hS⟩ (Or.inl ⟨by rfl, ?_⟩) ?_
    rotate_left
    · (intro w' hSw; clear hSw; go_simp; try with_reducible rfl)
    simp only [Act.put, List.setIfInBounds_toArray, List.set_cons_zero, List.set_cons_succ]
    refine tail_last 13 (o := ⟨none, _, _, _, _, _⟩) (by decide) (by kernel_rfl) rfl (fun K hK => ?_)
    have zs0 := T5.out.free 4
    have cs0 := T5.out.get 4 (.slice f2 (R.length + Q.length) c2) rfl
    go_simp
    clear zs0 cs0
    refine hK.out _ _ trivial ?_
    clear hK K
    try simp only [Act.put, List.setIfInBounds_toArray, List.set_cons_zero, List.set_cons_succ]
    refine tail_done (by kernel_rfl) ?_
    clear hS
    have T6 := Lib.hid ((T5.out.set 4 (.slice f5a (R.length + Q.length + 1) c5a) #[.slice f l c, .bool on, .int .i64 tf, .int .i64 tg, .slice f5a (R.length + Q.length + 1) c5a, .bool on1, .int .i64 of1, .int .i64 og1, .int .i64 pg, .int .i64 acc1, .int .i64 cur, .int .i64 lv] rfl))
    have D6 := Lib.hid ((D5.out.other ⟨tb, 4, none⟩ (.slice f5a (R.length + Q.length + 1) c5a) (show g1 ≠ tb by omega)))
    have F6 := Lib.hid ((F5.out.other ⟨tb, 4, none⟩ (.slice f5a (R.length + Q.length + 1) c5a) (show g1 + 1 ≠ tb by omega)))
    have G6 := Lib.hid ((G5.out.other ⟨tb, 4, none⟩ (.slice f5a (R.length + Q.length + 1) c5a) (show bG ≠ tb by omega)))
    have J6 := Lib.hid ((J5.out.other ⟨tb, 4, none⟩ (.slice f5a (R.length + Q.length + 1) c5a) (show bJ ≠ tb by omega)))
    have O6 := Lib.hid ((O5.out.otherN ⟨tb, 4, none⟩ (.slice f5a (R.length + Q.length + 1) c5a) (O5.out.ne_box T5.out (by decide))))
    have B6 := Lib.hid ((Below.setCell B5.out (p := ⟨tb, 4, none⟩) (show w0.heap.size ≤ tb by omega) (.slice f5a (R.length + Q.length + 1) c5a)))
    have K6 := Lib.hid ((K5.out.set 4 (.slice f5a (R.length + Q.length + 1) c5a)))
    obtain ⟨W6, hW6⟩ : ∃ W6, W6 = (w5).setCell ⟨tb, 4, none⟩ (.slice f5a (R.length + Q.length + 1) c5a) := ⟨_, rfl⟩
    have hs6 : g5 + 1 ≤ W6.heap.size := by rw [hW6]; first | (simp [World.setCell]; omega) | (simp [World.setCell, World.setRow]; omega) | exact hs5
    rw [← hW6] at T6 D6 F6 G6 J6 O6 B6 K6 ⊢
    clear hW6 T5 D5 F5 G5 J5 O5 B5 K5 hs5
    go_upto_region 6 with fail
    have hcs : g5 + 1 ≤ W6.heap.size := by omega
    refine wp_region_table (X := Unit) () (I0 := fun w' => Below W6.heap.size W6 w') (I1 := fun xJ w' => Below W6.heap.size W6 w') (lo := W6.heap.size) (c := 15) (U := [⟨(some 38), .con (.pointer (some ⟨tb, 0, none⟩))⟩, ⟨(some 39), .con (.pointer (some ⟨tb, 0, none⟩))⟩, ⟨(some 40), .con (.pointer (some ⟨tb, 0, none⟩))⟩, ⟨(some 41), .con (.pointer (some ⟨tb, 0, none⟩))⟩, ⟨(some 42), .ld (.agg #[.slice f l c])⟩, ⟨(some 43), .con (.pointer (some ⟨tb, 0, none⟩))⟩, ⟨(some 44), .con (.pointer (some ⟨tb, 0, none⟩))⟩, ⟨(some 45), .con (.pointer (some ⟨tb, 11, none⟩))⟩, ⟨(some 46), .ld (.int .i64 lv)⟩, ⟨(some 47), .con (.pointer (some ⟨bG, 0, none⟩))⟩, ⟨(some 48), .ld (.int .i64 hf)⟩, ⟨(some 49), .con (.pointer (some ⟨tb, 0, none⟩))⟩, ⟨(some 50), .con (.pointer (some ⟨tb, 0, none⟩))⟩, ⟨(some 51), .con (.pointer (some ⟨tb, 8, none⟩))⟩, ⟨(some 52), .ld (.int .i64 pg)⟩, ⟨(some 53), .cal fun xJ => .tuple #[.agg #[.int .i64 dk, .int .i64 df, .bool dr, .bool dw, .bool dx, .bool da, .bool dn, .int .i64 ds, .int .i64 d0], .int .i64 0]⟩, ⟨(some 37), .res fun xJ => .tuple #[.agg #[.int .i64 dk, .int .i64 df, .bool dr, .bool dw, .bool dx, .bool da, .bool dn, .int .i64 ds, .int .i64 d0], .int .i64 0]⟩, ⟨(some 54), .res fun xJ => .agg #[.int .i64 dk, .int .i64 df, .bool dr, .bool dw, .bool dx, .bool da, .bool dn, .int .i64 ds, .int .i64 d0]⟩, ⟨(some 55), .res fun xJ => .int .i64 0⟩, ⟨(some 6), .new 73 #[.int .i64 0, .int .i64 0, .bool false, .bool false, .bool false, .bool false, .bool false, .int .i64 0, .int .i64 0]⟩, ⟨none, .sto 19 fun xJ => #[.int .i64 dk, .int .i64 df, .bool dr, .bool dw, .bool dx, .bool da, .bool dn, .int .i64 ds, .int .i64 d0]⟩, ⟨(some 7), .res fun xJ => .int .i64 0⟩])
      (V := fun xJ => .tuple #[.agg #[.int .i64 dk, .int .i64 df, .bool dr, .bool dw, .bool dx, .bool da, .bool dn, .int .i64 ds, .int .i64 d0], .int .i64 0]) (f := 77) (args := #[.agg #[.slice f l c], .int .i64 1, .int .i64 lv, .int .i64 hf, .int .i64 pg]) (dc := some 53) (by kernel_rfl) (fun _ _ => rfl) (by kernel_rfl) (by kernel_rfl) rfl
      (AllObl.all ⟨fun _ _ _ => by kernel_rfl, fun _ _ _ => by kernel_rfl, fun _ _ _ => by kernel_rfl, fun _ _ _ => by kernel_rfl, fun _ _ _ hJ => run_ldN 24 (.tmp 41) tb 0 (by kernel_rfl) (by kernel_rfl) Tryz.underlying24 rfl (by kernel_rfl) ((T6.out.below hJ).sub 0 _ rfl), fun _ _ _ => by kernel_rfl, fun _ _ _ => by kernel_rfl, fun _ _ _ => by kernel_rfl, fun _ _ _ hJ => run_ld1 3 (.tmp 45) tb 11 (by kernel_rfl) (by kernel_rfl) Tryz.underlying3 rfl ((T6.out.below hJ).get 11 (.int .i64 lv) rfl), fun _ _ _ => by kernel_rfl, fun _ _ _ hJ => run_ld1 3 (.tmp 47) bG 0 (by kernel_rfl) (by kernel_rfl) Tryz.underlying3 rfl ((G6.out.below hJ).get 0 (.int .i64 hf) rfl), fun _ _ _ => by kernel_rfl, fun _ _ _ => by kernel_rfl, fun _ _ _ => by kernel_rfl, fun _ _ _ hJ => run_ld1 3 (.tmp 51) tb 8 (by kernel_rfl) (by kernel_rfl) Tryz.underlying3 rfl ((T6.out.below hJ).get 8 (.int .i64 pg) rfl), trivial, fun _ _ _ => by kernel_rfl, fun _ _ _ => by kernel_rfl, fun _ _ _ => by kernel_rfl, fun _ _ _ => by kernel_rfl, ⟨_, _, _, rfl, fun _ _ _ hJ => run_stoB 73 (.tmp 6) (.tmp 54) _ (by kernel_rfl) (by kernel_rfl) (by kernel_rfl) (by kernel_rfl) (by rfl) (by simp [Value.oneCell']) hJ⟩, fun _ _ _ => by kernel_rfl, trivial⟩)
      (fun _ oJ hJ => bel_alloc hJ oJ) (fun xJ _ oJ hJ => bel_alloc hJ oJ) (fun xJ _ bJ csJ dsJ tJ iJ zJ dJ hiJ hbJ hxJ hJ => Below.rowB (g := bJ) hJ (cs := dsJ) hbJ) (fun _ hJ => hJ.size) (fun xJ _ hJ => hJ.size) (fun _ _ _ _ => by kernel_rfl)
      (fun wJ hJ => (HTD.out _ (HX.out.below (bel_trans B6.out hJ))).mono (by rintro _ w2J ⟨rfl, hb⟩; exact ⟨(), rfl, bel_trans hJ hb, fun bJ csJ tJ iJ zJ dJ hiJ hlJ hxJ => hxJ.below hb⟩)) (Below.drew (Below.refl _ _)) ?_
    rintro _ βJ w7c q7_0 hNW
    obtain ⟨hbE7, QE7⟩ := hNW.full 19 20 (by kernel_rfl) rfl rfl
    clear hNW
    simp only [putU, if_true, Act.put, Knd.val, List.setIfInBounds_toArray, List.set_cons_zero, List.set_cons_succ]
    generalize βJ 19 = bE at *
    clear βJ
    have hz7 := q7_0.size
    have T7 := Lib.hid (T6.out.below q7_0)
    have D7 := Lib.hid (D6.out.below q7_0)
    have F7 := Lib.hid (F6.out.below q7_0)
    have G7 := Lib.hid (G6.out.below q7_0)
    have J7 := Lib.hid (J6.out.below q7_0)
    have O7 := Lib.hid (O6.out.below q7_0)
    have B7 := Lib.hid (bel_trans B6.out q7_0)
    have K7 := Lib.hid (K6.out.step q7_0)
    have En7 := Lib.hid (QE7)
    obtain ⟨m7, hm7⟩ : ∃ m7, m7 = w7c.heap.size := ⟨_, rfl⟩
    have hbm7 : g5 + 1 ≤ m7 := by omega
    have hlE7 : bE + 1 ≤ m7 := by rw [hm7]; exact QE7.lt
    have hgE7 : g5 + 1 ≤ bE := by omega
    have hs7 : m7 ≤ w7c.heap.size := by omega
    clear hm7 hz7 hcs q7_0 QE7 hbE7 T6 D6 F6 G6 J6 O6 B6 K6 hs6
    have Ec0 := En7.out.get 0 (.int .i64 dk) rfl
    have Ec1 := En7.out.get 1 (.int .i64 df) rfl
    have Ec2 := En7.out.get 2 (.bool dr) rfl
    have Ec3 := En7.out.get 3 (.bool dw) rfl
    have Ec4 := En7.out.get 4 (.bool dx) rfl
    have Ec5 := En7.out.get 5 (.bool da) rfl
    have Ec6 := En7.out.get 6 (.bool dn) rfl
    have Ec7 := En7.out.get 7 (.int .i64 ds) rfl
    have Ec8 := En7.out.get 8 (.int .i64 d0) rfl
    go_wp2_with (first | (refine wpList_storeB rfl 73 _ _ rfl (g1) #[.int .i64 dk, .int .i64 df, .bool dr, .bool dw, .bool dx, .bool da, .bool dn, .int .i64 ds, .int .i64 d0] _ 73 rfl rfl (by kernel_rfl) (by rfl) (by simp [Value.oneCell']) D7.out ?_) | (refine wpList_storeB rfl 38 _ _ rfl (g1 + 1) #[.int .i64 0, .int .i64 0, .int .i64 0, .bool false, .int .i64 0] _ 38 rfl rfl (by kernel_rfl) (by rfl) (by simp [Value.oneCell']) (F7.out.row (cs' := #[.int .i64 dk, .int .i64 df, .bool dr, .bool dw, .bool dx, .bool da, .bool dn, .int .i64 ds, .int .i64 d0]) (show g1 + 1 ≠ g1 by omega)) ?_))
    have RD := ((D7.out.put (cs' := #[.int .i64 dk, .int .i64 df, .bool dr, .bool dw, .bool dx, .bool da, .bool dn, .int .i64 ds, .int .i64 d0])).row (cs' := #[.int .i64 0, .int .i64 0, .int .i64 0, .bool false, .int .i64 0]) (show g1 ≠ g1 + 1 by omega))
    have RF := ((F7.out.row (cs' := #[.int .i64 dk, .int .i64 df, .bool dr, .bool dw, .bool dx, .bool da, .bool dn, .int .i64 ds, .int .i64 d0]) (show g1 + 1 ≠ g1 by omega)).put (cs' := #[.int .i64 0, .int .i64 0, .int .i64 0, .bool false, .int .i64 0]))
    refine bodyPost_ret (v := .tuple #[.agg #[.int .i64 dk, .int .i64 df, .bool dr, .bool dw, .bool dx, .bool da, .bool dn, .int .i64 ds, .int .i64 d0], .agg #[.int .i64 0, .int .i64 0, .int .i64 0, .bool false, .int .i64 0]]) (by simp [results, Tryz.results59, go_sem, RD.get 0 (.int .i64 dk) rfl, RD.get 1 (.int .i64 df) rfl, RD.get 2 (.bool dr) rfl, RD.get 3 (.bool dw) rfl, RD.get 4 (.bool dx) rfl, RD.get 5 (.bool da) rfl, RD.get 6 (.bool dn) rfl, RD.get 7 (.int .i64 ds) rfl, RD.get 8 (.int .i64 d0) rfl, RF.get 0 (.int .i64 0) rfl, RF.get 1 (.int .i64 0) rfl, RF.get 2 (.int .i64 0) rfl, RF.get 3 (.bool false) rfl, RF.get 4 (.int .i64 0) rfl]) rfl ?_
    have e1 : (R ++ (Q ++ [hf])).length = R.length + Q.length + 1 := by simp; omega
    refine ⟨f5a, c5a, rfl, ?_, ?_, ((K7.out.row (g1) #[.int .i64 dk, .int .i64 df, .bool dr, .bool dw, .bool dx, .bool da, .bool dn, .int .i64 ds, .int .i64 d0] (show w.heap.size ≤ g1 by omega)).row (g1 + 1) #[.int .i64 0, .int .i64 0, .int .i64 0, .bool false, .int .i64 0] (show w.heap.size ≤ g1 + 1 by omega))⟩
    · simp only [e1]; exact ((T7.out.row (cs' := #[.int .i64 dk, .int .i64 df, .bool dr, .bool dw, .bool dx, .bool da, .bool dn, .int .i64 ds, .int .i64 d0]) (show tb ≠ g1 by omega)).row (cs' := #[.int .i64 0, .int .i64 0, .int .i64 0, .bool false, .int .i64 0]) (show tb ≠ g1 + 1 by omega))
    · simp only [e1]; rw [← List.append_assoc]; exact ((O7.out.rowN (cs := #[.int .i64 dk, .int .i64 df, .bool dr, .bool dw, .bool dx, .bool da, .bool dn, .int .i64 ds, .int .i64 d0]) (O7.out.ne_box D7.out (by decide))).rowN (cs := #[.int .i64 0, .int .i64 0, .int .i64 0, .bool false, .int .i64 0]) (O7.out.ne_box F7.out (by decide)))
  · rw [if_neg hk0]
    have df : (fk != 0) = true := by simp [hk0]
    clear hk0 HTB HTA hcs
    go_enter Tryz.func59, Tryz.ntmps59
    go_upto_region 1 with fail
    have T1 := Lib.hid (((T0.out.alloc (.cells z9 73)).alloc (.cells z5 38)))
    have D1 := Lib.hid (((BoxAt.newAt (w) z9 73 (w.heap.size) (by first | omega | (simp; done) | (simp; omega))).alloc (.cells z5 38)))
    have F1 := Lib.hid ((BoxAt.newAt ((w).alloc (.cells z9 73)) z5 38 (w.heap.size + 1) (by first | omega | (simp; done) | (simp; omega))))
    have O1 := Lib.hid (((O0.out.alloc (.cells z9 73)).alloc (.cells z5 38)))
    have B1 := Lib.hid ((bel_alloc (bel_alloc HB0.out (.cells z9 73)) (.cells z5 38)))
    have K1 := Lib.hid (((K0.out.alloc (.cells z9 73)).alloc (.cells z5 38)))
    obtain ⟨g1, hg1⟩ : ∃ g1, g1 = w.heap.size := ⟨_, rfl⟩
    obtain ⟨W1, hW1⟩ : ∃ W1, W1 = ((w).alloc (.cells z9 73)).alloc (.cells z5 38) := ⟨_, rfl⟩
    have hs1 : g1 + 1 + 1 ≤ W1.heap.size := by rw [hW1, hg1]; simp
    rw [← hW1] at T1 D1 F1 O1 B1 K1 ⊢
    have hb1 : w.heap.size ≤ g1 := by omega
    rw [← hg1] at D1 F1 ⊢
    clear hg1
    clear hW1 T0 O0 HB0 K0
    have hcs : g1 + 1 + 1 ≤ W1.heap.size := by omega
    refine wp_region_table (X := Option Addr × Nat) (none, 0) (I0 := fun w' => Below W1.heap.size W1 w') (I1 := fun xJ w' => Kep tb (B) [3] W1 w' ∧ BoxAt w' tb #[.slice f l c, .bool on, .int .i64 tf, .int .i64 tg, .slice xJ.1 (R.length + Q.length) xJ.2, .bool on1, .int .i64 of1, .int .i64 og1, .int .i64 pg, .int .i64 acc1, .int .i64 cur, .int .i64 lv] 68 ∧ OwnI w' (B) (.slice xJ.1 (R.length + Q.length) xJ.2) (R ++ Q)) (lo := W1.heap.size) (c := 7) (U := [⟨(some 9), .con (.pointer (some ⟨tb, 0, none⟩))⟩, ⟨(some 10), .con (.pointer (some ⟨tb, 0, none⟩))⟩, ⟨(some 11), .con (.pointer (some ⟨tb, 0, none⟩))⟩, ⟨(some 12), .con (.pointer (some ⟨tb, 0, none⟩))⟩, ⟨(some 13), .con (.pointer (some ⟨tb, 0, none⟩))⟩, ⟨(some 14), .con (.pointer (some ⟨tb, 10, none⟩))⟩, ⟨(some 15), .ld (.int .i64 cur)⟩, ⟨(some 16), .cal fun xJ => .tuple #[.agg #[.int .i64 hf, .int .i64 hm, .bool hr, .bool hw, .bool hx, .bool ha, .bool hn, .int .i64 hs, .int .i64 hl], .agg #[.int .i64 fk, .int .i64 fs, .int .i64 fl, .bool fw, .int .i64 fp]]⟩, ⟨(some 8), .res fun xJ => .tuple #[.agg #[.int .i64 hf, .int .i64 hm, .bool hr, .bool hw, .bool hx, .bool ha, .bool hn, .int .i64 hs, .int .i64 hl], .agg #[.int .i64 fk, .int .i64 fs, .int .i64 fl, .bool fw, .int .i64 fp]]⟩, ⟨(some 17), .res fun xJ => .agg #[.int .i64 hf, .int .i64 hm, .bool hr, .bool hw, .bool hx, .bool ha, .bool hn, .int .i64 hs, .int .i64 hl]⟩, ⟨(some 18), .res fun xJ => .agg #[.int .i64 fk, .int .i64 fs, .int .i64 fl, .bool fw, .int .i64 fp]⟩, ⟨(some 4), .new 36 #[.int .i64 0, .int .i64 0, .bool false, .bool false, .bool false, .bool false, .bool false, .int .i64 0, .int .i64 0]⟩, ⟨(some 5), .new 38 #[.int .i64 0, .int .i64 0, .int .i64 0, .bool false, .int .i64 0]⟩, ⟨none, .sto 11 fun xJ => #[.int .i64 hf, .int .i64 hm, .bool hr, .bool hw, .bool hx, .bool ha, .bool hn, .int .i64 hs, .int .i64 hl]⟩, ⟨none, .sto 12 fun xJ => #[.int .i64 fk, .int .i64 fs, .int .i64 fl, .bool fw, .int .i64 fp]⟩])
      (V := fun xJ => .tuple #[.agg #[.int .i64 hf, .int .i64 hm, .bool hr, .bool hw, .bool hx, .bool ha, .bool hn, .int .i64 hs, .int .i64 hl], .agg #[.int .i64 fk, .int .i64 fs, .int .i64 fl, .bool fw, .int .i64 fp]]) (f := 25) (args := #[.pointer (some ⟨tb, 0, none⟩), .int .i64 cur, .int .i64 0]) (dc := some 16) (by kernel_rfl) (fun _ _ => rfl) (by kernel_rfl) (by kernel_rfl) rfl
      (AllObl.all ⟨fun _ _ _ => by kernel_rfl, fun _ _ _ => by kernel_rfl, fun _ _ _ => by kernel_rfl, fun _ _ _ => by kernel_rfl, fun _ _ _ => by kernel_rfl, fun _ _ _ => by kernel_rfl, fun _ _ _ hJ => run_ld1 3 (.tmp 14) tb 10 (by kernel_rfl) (by kernel_rfl) Tryz.underlying3 rfl ((T1.out.below hJ).get 10 (.int .i64 cur) rfl), trivial, fun _ _ _ => by kernel_rfl, fun _ _ _ => by kernel_rfl, fun _ _ _ => by kernel_rfl, fun _ _ _ => by kernel_rfl, fun _ _ _ => by kernel_rfl, ⟨_, _, _, rfl, fun _ _ _ hJ => run_stoB 36 (.tmp 4) (.tmp 17) _ (by kernel_rfl) (by kernel_rfl) (by kernel_rfl) (by kernel_rfl) (by rfl) (by simp [Value.oneCell']) hJ⟩, ⟨_, _, _, rfl, fun _ _ _ hJ => run_stoB 38 (.tmp 5) (.tmp 18) _ (by kernel_rfl) (by kernel_rfl) (by kernel_rfl) (by kernel_rfl) (by rfl) (by simp [Value.oneCell']) hJ⟩, trivial⟩)
      (fun _ oJ hJ => bel_alloc hJ oJ) (fun xJ _ oJ hJ => ⟨hJ.1.alloc oJ, hJ.2.1.alloc oJ, hJ.2.2.alloc oJ⟩) (fun xJ _ bJ csJ dsJ tJ iJ zJ dJ hiJ hbJ hxJ hJ => ⟨hJ.1.row bJ dsJ hbJ, hJ.2.1.row (show tb ≠ bJ by omega), hJ.2.2.rowN (hJ.2.2.ne_box hxJ (fun eJ => newsOk_spec (bad := [3]) (by kernel_rfl) hiJ (by rw [eJ]; exact List.mem_cons_self ..)))⟩) (fun _ hJ => hJ.size) (fun xJ _ hJ => hJ.1.size) (fun _ _ _ _ => by kernel_rfl)
      (fun wJ hJ => (HR.out _ (bel_trans B1.out hJ) (by have := hJ.size; first | omega | (simp; done) | (simp; omega)) (O1.out.below hJ) (T1.out.below hJ)).mono (by rintro _ w2J ⟨f, c, rfl, qT, qO, qW⟩; exact ⟨(f, c), rfl, ⟨(Kep.of hJ).trans qW, qT, qO⟩, fun bJ csJ tJ iJ zJ dJ hiJ hlJ hxJ => qW.box hxJ (newsOk_spec (by kernel_rfl) hiJ) (show bJ ≠ tb by omega)⟩)) (Below.drew (Below.refl _ _)) ?_
    rintro ⟨f2, c2⟩ βJ w2c ⟨q2_0, q2_1, q2_2⟩ hNW
    obtain ⟨hbG2, QG2⟩ := hNW.full 11 13 (by kernel_rfl) rfl rfl
    obtain ⟨hbJ2, QJ2⟩ := hNW.full 12 14 (by kernel_rfl) rfl rfl
    have hn2_01 := hNW.ne 11 12 _ _ _ _ _ _ rfl rfl rfl rfl (by decide)
    clear hNW
    simp only [putU, if_true, Act.put, Knd.val, List.setIfInBounds_toArray, List.set_cons_zero, List.set_cons_succ]
    generalize βJ 11 = bG at *
    generalize βJ 12 = bJ at *
    clear βJ
    have hz2 := q2_0.size
    have T2 := Lib.hid (q2_1)
    have D2 := Lib.hid ((q2_0.box D1.out (by decide) (show g1 ≠ tb by omega)))
    have F2 := Lib.hid ((q2_0.box F1.out (by decide) (show g1 + 1 ≠ tb by omega)))
    have O2 := Lib.hid (q2_2)
    have B2 := Lib.hid ((q2_0.under B1.out (by first | omega | (simp; done) | (simp; omega)) (show w0.heap.size ≤ tb by omega) (show w0.heap.size ≤ B by omega)))
    have K2 := Lib.hid ((K1.out.trans q2_0))
    have Gn2 := Lib.hid (QG2)
    have Jn2 := Lib.hid (QJ2)
    obtain ⟨m2, hm2⟩ : ∃ m2, m2 = w2c.heap.size := ⟨_, rfl⟩
    have hbm2 : g1 + 1 + 1 ≤ m2 := by omega
    have hlG2 : bG + 1 ≤ m2 := by rw [hm2]; exact QG2.lt
    have hgG2 : g1 + 1 + 1 ≤ bG := by omega
    have hlJ2 : bJ + 1 ≤ m2 := by rw [hm2]; exact QJ2.lt
    have hgJ2 : g1 + 1 + 1 ≤ bJ := by omega
    have hs2 : m2 ≤ w2c.heap.size := by omega
    clear hm2 hz2 hcs q2_0 q2_1 q2_2 QG2 hbG2 QJ2 hbJ2 T1 D1 F1 O1 B1 K1 hs1
    have Jc0 := Jn2.out.get 0 (.int .i64 fk) rfl
    have Jc1 := Jn2.out.get 1 (.int .i64 fs) rfl
    have Jc2 := Jn2.out.get 2 (.int .i64 fl) rfl
    have Jc3 := Jn2.out.get 3 (.bool fw) rfl
    have Jc4 := Jn2.out.get 4 (.int .i64 fp) rfl
    go_wp2_with fail
    refine (HIF.out _ _ _ _ _ _).mono ?_
    rintro e w3 ⟨rfl, hb3⟩
    have hz3 := hb3.size
    have T3 := Lib.hid (T2.out.below hb3)
    have D3 := Lib.hid (D2.out.below hb3)
    have F3 := Lib.hid (F2.out.below hb3)
    have G3 := Lib.hid (Gn2.out.below hb3)
    have J3 := Lib.hid (Jn2.out.below hb3)
    have O3 := Lib.hid (O2.out.below hb3)
    have B3 := Lib.hid (bel_trans B2.out hb3)
    have K3 := Lib.hid (K2.out.step hb3)
    skip
    have hs3 : m2 ≤ w3.heap.size := by omega
    clear Jc0 Jc1 Jc2 Jc3 Jc4
    clear T2 D2 F2 Gn2 Jn2 O2 B2 K2 hs2 hb3 hz3
    have Jc3 := J3.out.get 3 (.bool fw) rfl
    have Jz3 := J3.out.free 3
    go_upto_region 4 with fail
    clear Jc3 Jz3
    have T4 := Lib.hid ((T3.out.other ⟨bJ, 3, none⟩ (.bool true) (show tb ≠ bJ by omega)))
    have D4 := Lib.hid ((D3.out.other ⟨bJ, 3, none⟩ (.bool true) (show g1 ≠ bJ by omega)))
    have F4 := Lib.hid ((F3.out.other ⟨bJ, 3, none⟩ (.bool true) (show g1 + 1 ≠ bJ by omega)))
    have G4 := Lib.hid ((G3.out.other ⟨bJ, 3, none⟩ (.bool true) (show bG ≠ bJ by omega)))
    have J4 := Lib.hid ((J3.out.set 3 (.bool true) #[.int .i64 fk, .int .i64 fs, .int .i64 fl, .bool true, .int .i64 fp] rfl))
    have O4 := Lib.hid ((O3.out.otherN ⟨bJ, 3, none⟩ (.bool true) (O3.out.ne_box J3.out (by decide))))
    have B4 := Lib.hid ((Below.setCell B3.out (p := ⟨bJ, 3, none⟩) (show w0.heap.size ≤ bJ by omega) (.bool true)))
    have K4 := Lib.hid ((K3.out.high ⟨bJ, 3, none⟩ (.bool true) (show w.heap.size ≤ bJ by omega)))
    obtain ⟨W4, hW4⟩ : ∃ W4, W4 = (w3).setCell ⟨bJ, 3, none⟩ (.bool true) := ⟨_, rfl⟩
    have hs4 : m2 ≤ W4.heap.size := by rw [hW4]; first | (simp [World.setCell]; omega) | (simp [World.setCell, World.setRow]; omega) | exact hs3
    rw [← hW4] at T4 D4 F4 G4 J4 O4 B4 K4 ⊢
    clear hW4 T3 D3 F3 G3 J3 O3 B3 K3 hs3
    refine wp_region_held_drew (S := (fun w' => BoxAt w' (bJ) #[.int .i64 fk, .int .i64 fs, .int .i64 fl, .bool true, .int .i64 fp] 38)) (by kernel_rfl) (J4.out.drew) (fun hS => ?_)
    refine tkR 0 22 (v := .agg #[.int .i64 0, .int .i64 0, .bool false, .bool false, .bool false, .bool false, .bool false, .int .i64 0, .int .i64 0]) rfl hS (fun _ _ => by kernel_rfl) ?_
    refine tkR 1 23 (v := .agg #[.int .i64 fk, .int .i64 fs, .int .i64 fl, .bool true, .int .i64 fp]) rfl hS (fun _ h => run_ldN 38 (.tmp 5) bJ 0 (by kernel_rfl) (by kernel_rfl) Tryz.underlying38 rfl (by kernel_rfl) ((h).sub 0 _ rfl)) ?_
    try simp only [Act.put, List.setIfInBounds_toArray, List.set_cons_zero, List.set_cons_succ]
    refine wpAnyH_ready (rs := [2]) (by kernel_rfl) (by simp) ?_
    refine AllReadyH.cons (o := ⟨none, _, _, _, _, _⟩) rfl (fun K hK => ?_) AllReadyH.nil
    refine step_storeB rfl 73 _ _ rfl _ _ _ 73 rfl rfl (by kernel_rfl) (by rfl) (by simp [Value.oneCell']) (D4.out.drew) ?_
    refine hK.out _ _ ?_ (fun hS' => ?_)
    · exact (hS.row (show bJ ≠ g1 by omega))
    clear hK K hS
    have hS := hS'
    clear hS'
    try simp only [Act.put]
    try simp only [Act.put, List.setIfInBounds_toArray, List.set_cons_zero, List.set_cons_succ]
    refine wpAnyH_ready (rs := [3]) (by kernel_rfl) (by simp) ?_
    refine AllReadyH.cons (o := ⟨none, _, _, _, _, _⟩) rfl (fun K hK => ?_) AllReadyH.nil
    refine step_storeB rfl 38 _ _ rfl _ _ _ 38 rfl rfl (by kernel_rfl) (by rfl) (by simp [Value.oneCell']) ((F4.out.drew).row (cs' := #[.int .i64 0, .int .i64 0, .bool false, .bool false, .bool false, .bool false, .bool false, .int .i64 0, .int .i64 0]) (show g1 + 1 ≠ g1 by omega)) ?_
    refine hK.out _ _ ?_ (fun hS' => ?_)
    · exact (hS.row (show bJ ≠ g1 + 1 by omega))
    clear hK K hS
    have hS := hS'
    clear hS'
    try simp only [Act.put]
    refine wpAnyH_done (by kernel_rfl) ?_ _
    try simp only [Act.put, List.setIfInBounds_toArray, List.set_cons_zero, List.set_cons_succ]
    have T5 := Lib.hid ((((T4.out.drew).row (cs' := #[.int .i64 0, .int .i64 0, .bool false, .bool false, .bool false, .bool false, .bool false, .int .i64 0, .int .i64 0]) (show tb ≠ g1 by omega)).row (cs' := #[.int .i64 fk, .int .i64 fs, .int .i64 fl, .bool true, .int .i64 fp]) (show tb ≠ g1 + 1 by omega)))
    have D5 := Lib.hid ((((D4.out.drew).put (cs' := #[.int .i64 0, .int .i64 0, .bool false, .bool false, .bool false, .bool false, .bool false, .int .i64 0, .int .i64 0])).row (cs' := #[.int .i64 fk, .int .i64 fs, .int .i64 fl, .bool true, .int .i64 fp]) (show g1 ≠ g1 + 1 by omega)))
    have F5 := Lib.hid ((((F4.out.drew).row (cs' := #[.int .i64 0, .int .i64 0, .bool false, .bool false, .bool false, .bool false, .bool false, .int .i64 0, .int .i64 0]) (show g1 + 1 ≠ g1 by omega)).put (cs' := #[.int .i64 fk, .int .i64 fs, .int .i64 fl, .bool true, .int .i64 fp])))
    have G5 := Lib.hid ((((G4.out.drew).row (cs' := #[.int .i64 0, .int .i64 0, .bool false, .bool false, .bool false, .bool false, .bool false, .int .i64 0, .int .i64 0]) (show bG ≠ g1 by omega)).row (cs' := #[.int .i64 fk, .int .i64 fs, .int .i64 fl, .bool true, .int .i64 fp]) (show bG ≠ g1 + 1 by omega)))
    have J5 := Lib.hid ((((J4.out.drew).row (cs' := #[.int .i64 0, .int .i64 0, .bool false, .bool false, .bool false, .bool false, .bool false, .int .i64 0, .int .i64 0]) (show bJ ≠ g1 by omega)).row (cs' := #[.int .i64 fk, .int .i64 fs, .int .i64 fl, .bool true, .int .i64 fp]) (show bJ ≠ g1 + 1 by omega)))
    have O5 := Lib.hid ((((O4.out.drew).rowN (cs := #[.int .i64 0, .int .i64 0, .bool false, .bool false, .bool false, .bool false, .bool false, .int .i64 0, .int .i64 0]) (O4.out.ne_box D4.out (by decide))).rowN (cs := #[.int .i64 fk, .int .i64 fs, .int .i64 fl, .bool true, .int .i64 fp]) (O4.out.ne_box F4.out (by decide))))
    have B5 := Lib.hid ((Below.rowB (g := g1 + 1) (Below.rowB (g := g1) (Below.drew B4.out) (cs := #[.int .i64 0, .int .i64 0, .bool false, .bool false, .bool false, .bool false, .bool false, .int .i64 0, .int .i64 0]) (show w0.heap.size ≤ g1 by omega)) (cs := #[.int .i64 fk, .int .i64 fs, .int .i64 fl, .bool true, .int .i64 fp]) (show w0.heap.size ≤ g1 + 1 by omega)))
    have K5 := Lib.hid ((((K4.out.drew).row (g1) #[.int .i64 0, .int .i64 0, .bool false, .bool false, .bool false, .bool false, .bool false, .int .i64 0, .int .i64 0] (show w.heap.size ≤ g1 by omega)).row (g1 + 1) #[.int .i64 fk, .int .i64 fs, .int .i64 fl, .bool true, .int .i64 fp] (show w.heap.size ≤ g1 + 1 by omega)))
    obtain ⟨W5, hW5⟩ : ∃ W5, W5 = (((W4).drew).setRow (g1) #[.int .i64 0, .int .i64 0, .bool false, .bool false, .bool false, .bool false, .bool false, .int .i64 0, .int .i64 0]).setRow (g1 + 1) #[.int .i64 fk, .int .i64 fs, .int .i64 fl, .bool true, .int .i64 fp] := ⟨_, rfl⟩
    have hs5 : m2 ≤ W5.heap.size := by rw [hW5]; first | exact hs4 | (simp; omega)
    rw [← hW5] at T5 D5 F5 G5 J5 O5 B5 K5 ⊢
    clear hW5 T4 D4 F4 G4 J4 O4 B4 K4 hs4
    go_wp2
    have RD := D5.out
    have RF := F5.out
    refine bodyPost_ret (v := .tuple #[.agg #[.int .i64 0, .int .i64 0, .bool false, .bool false, .bool false, .bool false, .bool false, .int .i64 0, .int .i64 0], .agg #[.int .i64 fk, .int .i64 fs, .int .i64 fl, .bool true, .int .i64 fp]]) (by simp [results, Tryz.results59, go_sem, RD.get 0 (.int .i64 0) rfl, RD.get 1 (.int .i64 0) rfl, RD.get 2 (.bool false) rfl, RD.get 3 (.bool false) rfl, RD.get 4 (.bool false) rfl, RD.get 5 (.bool false) rfl, RD.get 6 (.bool false) rfl, RD.get 7 (.int .i64 0) rfl, RD.get 8 (.int .i64 0) rfl, RF.get 0 (.int .i64 fk) rfl, RF.get 1 (.int .i64 fs) rfl, RF.get 2 (.int .i64 fl) rfl, RF.get 3 (.bool true) rfl, RF.get 4 (.int .i64 fp) rfl]) rfl ?_
    have e1 : (R ++ Q).length = R.length + Q.length := by simp
    refine ⟨f2, c2, rfl, ?_, ?_, K5.out⟩
    · simp only [e1]; exact T5.out
    · simp only [e1]; exact O5.out
/-- Where a trip ends that stands before its last page. -/
def landD (l : Nat) (X : Nat → BitVec 64) (on : Bool) (tf cur acc lv : Int) (ab : List Atr) : Hit × Flt × List Int :=
  if (midD l X on tf cur acc).2.1.k = 0 then (⟨(midD l X on tf cur acc).1.f, (midD l X on tf cur acc).1.m, bothL (ab ++ [(midD l X on tf cur acc).1.t]), lv⟩, flt0, (midD l X on tf cur acc).2.2)
  else (hit0, (midD l X on tf cur acc).2.1, (midD l X on tf cur acc).2.2)
def LandN (f : Option Addr) (l c : Nat) (on : Bool) (tf tg : Int) (on1 : Bool) (of1 og1 pg acc1 cur lv : Int) (tb B : Nat) (R : List Int) (q : Hit × Flt × List Int) (w : World) (e : Ending) (w' : World) : Prop :=
  ∃ f2 c2, e = .returned (.tuple #[hitV q.1, fltV q.2.1]) ∧ BoxAt w' tb #[.slice f l c, .bool on, .int .i64 tf, .int .i64 tg, .slice f2 (R ++ q.2.2).length c2, .bool on1, .int .i64 of1, .int .i64 og1, .int .i64 pg, .int .i64 acc1, .int .i64 cur, .int .i64 lv] 68 ∧ OwnI w' B (.slice f2 (R ++ q.2.2).length c2) (R ++ q.2.2) ∧ Kep tb B [3] w w'
set_option maxRecDepth 100000 in
set_option maxHeartbeats 3200000 in
theorem nlandN_any (f : Option Addr) (l c : Nat) (X : Nat → BitVec 64) (on : Bool) (tf tg : Int) (on1 : Bool) (of1 og1 pg acc1 cur lv : Int) (f' : Option Addr) (c' : Nat) (R : List Int) (tb B : Nat) (w0 w : World) (hac : numB acc1 2 = true) (hX : WordsAt w0 f l X) (hlc : l ≤ c) (hM : okM l = true) (t0 : 0 ≤ tf) (t1 : tf ≤ 4095)
    (hB0 : Below w0.heap.size w0 w) (h0 : w0.heap.size ≤ tb) (hBw : B ≤ w.heap.size) (htB : tb < B) (hO : OwnI w B (.slice f' R.length c') R) (hk : R.length ≤ 50) (m0 : 0 ≤ cur) (m1 : cur ≤ 4095) (hT : BoxAt w tb #[.slice f l c, .bool on, .int .i64 tf, .int .i64 tg, .slice f' R.length c', .bool on1, .int .i64 of1, .int .i64 og1, .int .i64 pg, .int .i64 acc1, .int .i64 cur, .int .i64 lv] 68) :
    Calls Tryz.prog 46 #[.pointer (some ⟨tb, 0, none⟩), .slice none 0 0] w (LandN f l c on tf tg on1 of1 og1 pg acc1 cur lv tb B R (landD l X on tf cur acc1 lv []) w) := by
  have HR := Lib.hid (fun W hB0 hBw hO hT => nreachT_any f l c X on tf tg on1 of1 og1 pg acc1 cur lv cur acc1 f' c' R tb B w0 W hac hX hlc hM t0 t1 m0 m1 hB0 h0 hBw htB hO (by omega) hT)
  have HIF := Lib.hid (fun fk fs fl fw fp W => nfault_any ⟨fk, fs, fl, fw, fp⟩ W)
  unfold fltV at HIF
  simp only at HIF
  have hq4 := (midD_len l X on tf t0 cur acc1 m0)
  have T0 := Lib.hid hT
  have O0 := Lib.hid hO
  have HB0 := Lib.hid hB0
  have HX := Lib.hid hX
  have K0 := Lib.hid (Kep.refl (tb := tb) (B := B) (ow := [3]) w)
  clear hX hB0 hT hO
  clear t0 t1 m0 m1 hlc hM hac HX
  unfold landD
  generalize midD l X on tf cur acc1 = q at *
  obtain ⟨⟨hf, hm, ⟨hr, hw, hx, ha, hn, hs⟩, hl⟩, ⟨fk, fs, fl, fw, fp⟩, Q⟩ := q
  simp only at hq4 ⊢
  by_cases hk0 : fk = 0
  · rw [if_pos hk0]
    have df : (fk != 0) = false := by rw [hk0]; rfl
    clear hk0
    obtain ⟨r, hr0⟩ : ∃ r, r = bothL ([] ++ [(⟨hr, hw, hx, ha, hn, hs⟩ : Atr)]) := ⟨_, rfl⟩
    have HBo := Lib.hid (fun fz nz cz W hLz hnz => bothC fz nz cz ([] ++ [(⟨hr, hw, hx, ha, hn, hs⟩ : Atr)]) W hLz hnz (by simp))
    rw [← hr0] at HBo ⊢
    clear hr0
    obtain ⟨br, bw, bx, ba, bn, bs⟩ := r
    unfold atrV atrC at HBo
    simp only at HBo
    go_enter Tryz.func46, Tryz.ntmps46
    go_upto_region 1 with fail
    have T1 := Lib.hid (((T0.out.alloc (.cells z9 36)).alloc (.cells z5 38)))
    have H1 := Lib.hid (((BoxAt.newAt (w) z9 36 (w.heap.size) (by first | omega | (simp; done) | (simp; omega))).alloc (.cells z5 38)))
    have F1 := Lib.hid ((BoxAt.newAt ((w).alloc (.cells z9 36)) z5 38 (w.heap.size + 1) (by first | omega | (simp; done) | (simp; omega))))
    have O1 := Lib.hid (((O0.out.alloc (.cells z9 36)).alloc (.cells z5 38)))
    have B1 := Lib.hid ((bel_alloc (bel_alloc HB0.out (.cells z9 36)) (.cells z5 38)))
    have K1 := Lib.hid (((K0.out.alloc (.cells z9 36)).alloc (.cells z5 38)))
    obtain ⟨g1, hg1⟩ : ∃ g1, g1 = w.heap.size := ⟨_, rfl⟩
    obtain ⟨W1, hW1⟩ : ∃ W1, W1 = ((w).alloc (.cells z9 36)).alloc (.cells z5 38) := ⟨_, rfl⟩
    have hs1 : g1 + 1 + 1 ≤ W1.heap.size := by rw [hW1, hg1]; simp
    rw [← hW1] at T1 H1 F1 O1 B1 K1 ⊢
    have hb1 : w.heap.size ≤ g1 := by omega
    rw [← hg1] at H1 F1 ⊢
    clear hg1
    clear hW1 T0 O0 HB0 K0
    have hcs : g1 + 1 + 1 ≤ W1.heap.size := by omega
    refine wp_region_table (X := Option Addr × Nat) (none, 0) (I0 := fun w' => Below W1.heap.size W1 w') (I1 := fun xJ w' => Kep tb (B) [3] W1 w' ∧ BoxAt w' tb #[.slice f l c, .bool on, .int .i64 tf, .int .i64 tg, .slice xJ.1 (R.length + Q.length) xJ.2, .bool on1, .int .i64 of1, .int .i64 og1, .int .i64 pg, .int .i64 acc1, .int .i64 cur, .int .i64 lv] 68 ∧ OwnI w' (B) (.slice xJ.1 (R.length + Q.length) xJ.2) (R ++ Q)) (lo := W1.heap.size) (c := 11) (U := [⟨(some 9), .con (.pointer (some ⟨tb, 0, none⟩))⟩, ⟨(some 10), .con (.pointer (some ⟨tb, 0, none⟩))⟩, ⟨(some 11), .con (.pointer (some ⟨tb, 0, none⟩))⟩, ⟨(some 12), .con (.pointer (some ⟨tb, 0, none⟩))⟩, ⟨(some 13), .con (.pointer (some ⟨tb, 0, none⟩))⟩, ⟨(some 14), .con (.pointer (some ⟨tb, 10, none⟩))⟩, ⟨(some 15), .ld (.int .i64 cur)⟩, ⟨(some 16), .con (.pointer (some ⟨tb, 0, none⟩))⟩, ⟨(some 17), .con (.pointer (some ⟨tb, 0, none⟩))⟩, ⟨(some 18), .con (.pointer (some ⟨tb, 9, none⟩))⟩, ⟨(some 19), .ld (.int .i64 acc1)⟩, ⟨(some 20), .cal fun xJ => .tuple #[.agg #[.int .i64 hf, .int .i64 hm, .bool hr, .bool hw, .bool hx, .bool ha, .bool hn, .int .i64 hs, .int .i64 hl], .agg #[.int .i64 fk, .int .i64 fs, .int .i64 fl, .bool fw, .int .i64 fp]]⟩, ⟨(some 8), .res fun xJ => .tuple #[.agg #[.int .i64 hf, .int .i64 hm, .bool hr, .bool hw, .bool hx, .bool ha, .bool hn, .int .i64 hs, .int .i64 hl], .agg #[.int .i64 fk, .int .i64 fs, .int .i64 fl, .bool fw, .int .i64 fp]]⟩, ⟨(some 21), .res fun xJ => .agg #[.int .i64 hf, .int .i64 hm, .bool hr, .bool hw, .bool hx, .bool ha, .bool hn, .int .i64 hs, .int .i64 hl]⟩, ⟨(some 22), .res fun xJ => .agg #[.int .i64 fk, .int .i64 fs, .int .i64 fl, .bool fw, .int .i64 fp]⟩, ⟨(some 6), .new 36 #[.int .i64 0, .int .i64 0, .bool false, .bool false, .bool false, .bool false, .bool false, .int .i64 0, .int .i64 0]⟩, ⟨(some 7), .new 38 #[.int .i64 0, .int .i64 0, .int .i64 0, .bool false, .int .i64 0]⟩, ⟨none, .sto 15 fun xJ => #[.int .i64 hf, .int .i64 hm, .bool hr, .bool hw, .bool hx, .bool ha, .bool hn, .int .i64 hs, .int .i64 hl]⟩, ⟨none, .sto 16 fun xJ => #[.int .i64 fk, .int .i64 fs, .int .i64 fl, .bool fw, .int .i64 fp]⟩])
      (V := fun xJ => .tuple #[.agg #[.int .i64 hf, .int .i64 hm, .bool hr, .bool hw, .bool hx, .bool ha, .bool hn, .int .i64 hs, .int .i64 hl], .agg #[.int .i64 fk, .int .i64 fs, .int .i64 fl, .bool fw, .int .i64 fp]]) (f := 25) (args := #[.pointer (some ⟨tb, 0, none⟩), .int .i64 cur, .int .i64 acc1]) (dc := some 20) (by kernel_rfl) (fun _ _ => rfl) (by kernel_rfl) (by kernel_rfl) rfl
      (AllObl.all ⟨fun _ _ _ => by kernel_rfl, fun _ _ _ => by kernel_rfl, fun _ _ _ => by kernel_rfl, fun _ _ _ => by kernel_rfl, fun _ _ _ => by kernel_rfl, fun _ _ _ => by kernel_rfl, fun _ _ _ hJ => run_ld1 3 (.tmp 14) tb 10 (by kernel_rfl) (by kernel_rfl) Tryz.underlying3 rfl ((T1.out.below hJ).get 10 (.int .i64 cur) rfl), fun _ _ _ => by kernel_rfl, fun _ _ _ => by kernel_rfl, fun _ _ _ => by kernel_rfl, fun _ _ _ hJ => run_ld1 3 (.tmp 18) tb 9 (by kernel_rfl) (by kernel_rfl) Tryz.underlying3 rfl ((T1.out.below hJ).get 9 (.int .i64 acc1) rfl), trivial, fun _ _ _ => by kernel_rfl, fun _ _ _ => by kernel_rfl, fun _ _ _ => by kernel_rfl, fun _ _ _ => by kernel_rfl, fun _ _ _ => by kernel_rfl, ⟨_, _, _, rfl, fun _ _ _ hJ => run_stoB 36 (.tmp 6) (.tmp 21) _ (by kernel_rfl) (by kernel_rfl) (by kernel_rfl) (by kernel_rfl) (by rfl) (by simp [Value.oneCell']) hJ⟩, ⟨_, _, _, rfl, fun _ _ _ hJ => run_stoB 38 (.tmp 7) (.tmp 22) _ (by kernel_rfl) (by kernel_rfl) (by kernel_rfl) (by kernel_rfl) (by rfl) (by simp [Value.oneCell']) hJ⟩, trivial⟩)
      (fun _ oJ hJ => bel_alloc hJ oJ) (fun xJ _ oJ hJ => ⟨hJ.1.alloc oJ, hJ.2.1.alloc oJ, hJ.2.2.alloc oJ⟩) (fun xJ _ bJ csJ dsJ tJ iJ zJ dJ hiJ hbJ hxJ hJ => ⟨hJ.1.row bJ dsJ hbJ, hJ.2.1.row (show tb ≠ bJ by omega), hJ.2.2.rowN (hJ.2.2.ne_box hxJ (fun eJ => newsOk_spec (bad := [3]) (by kernel_rfl) hiJ (by rw [eJ]; exact List.mem_cons_self ..)))⟩) (fun _ hJ => hJ.size) (fun xJ _ hJ => hJ.1.size) (fun _ _ _ _ => by kernel_rfl)
      (fun wJ hJ => (HR.out _ (bel_trans B1.out hJ) (by have := hJ.size; first | omega | (simp; done) | (simp; omega)) (O1.out.below hJ) (T1.out.below hJ)).mono (by rintro _ w2J ⟨f, c, rfl, qT, qO, qW⟩; exact ⟨(f, c), rfl, ⟨(Kep.of hJ).trans qW, qT, qO⟩, fun bJ csJ tJ iJ zJ dJ hiJ hlJ hxJ => qW.box hxJ (newsOk_spec (by kernel_rfl) hiJ) (show bJ ≠ tb by omega)⟩)) (Below.drew (Below.refl _ _)) ?_
    rintro ⟨f2, c2⟩ βJ w2c ⟨q2_0, q2_1, q2_2⟩ hNW
    obtain ⟨hbG2, QG2⟩ := hNW.full 15 17 (by kernel_rfl) rfl rfl
    obtain ⟨hbJ2, QJ2⟩ := hNW.full 16 18 (by kernel_rfl) rfl rfl
    have hn2_01 := hNW.ne 15 16 _ _ _ _ _ _ rfl rfl rfl rfl (by decide)
    clear hNW
    simp only [putU, if_true, Act.put, Knd.val, List.setIfInBounds_toArray, List.set_cons_zero, List.set_cons_succ]
    generalize βJ 15 = bG at *
    generalize βJ 16 = bJ at *
    clear βJ
    have hz2 := q2_0.size
    have T2 := Lib.hid (q2_1)
    have H2 := Lib.hid ((q2_0.box H1.out (by decide) (show g1 ≠ tb by omega)))
    have F2 := Lib.hid ((q2_0.box F1.out (by decide) (show g1 + 1 ≠ tb by omega)))
    have O2 := Lib.hid (q2_2)
    have B2 := Lib.hid ((q2_0.under B1.out (by first | omega | (simp; done) | (simp; omega)) (show w0.heap.size ≤ tb by omega) (show w0.heap.size ≤ B by omega)))
    have K2 := Lib.hid ((K1.out.trans q2_0))
    have Gn2 := Lib.hid (QG2)
    have Jn2 := Lib.hid (QJ2)
    obtain ⟨m2, hm2⟩ : ∃ m2, m2 = w2c.heap.size := ⟨_, rfl⟩
    have hbm2 : g1 + 1 + 1 ≤ m2 := by omega
    have hlG2 : bG + 1 ≤ m2 := by rw [hm2]; exact QG2.lt
    have hgG2 : g1 + 1 + 1 ≤ bG := by omega
    have hlJ2 : bJ + 1 ≤ m2 := by rw [hm2]; exact QJ2.lt
    have hgJ2 : g1 + 1 + 1 ≤ bJ := by omega
    have hs2 : m2 ≤ w2c.heap.size := by omega
    clear hm2 hz2 hcs q2_0 q2_1 q2_2 QG2 hbG2 QJ2 hbJ2 T1 H1 F1 O1 B1 K1 hs1
    have Jc0 := Jn2.out.get 0 (.int .i64 fk) rfl
    have Jc1 := Jn2.out.get 1 (.int .i64 fs) rfl
    have Jc2 := Jn2.out.get 2 (.int .i64 fl) rfl
    have Jc3 := Jn2.out.get 3 (.bool fw) rfl
    have Jc4 := Jn2.out.get 4 (.int .i64 fp) rfl
    go_wp2_with fail
    refine (HIF.out _ _ _ _ _ _).mono ?_
    rintro e w3 ⟨rfl, hb3⟩
    have hz3 := hb3.size
    have T3 := Lib.hid (T2.out.below hb3)
    have H3 := Lib.hid (H2.out.below hb3)
    have F3 := Lib.hid (F2.out.below hb3)
    have G3 := Lib.hid (Gn2.out.below hb3)
    have J3 := Lib.hid (Jn2.out.below hb3)
    have O3 := Lib.hid (O2.out.below hb3)
    have B3 := Lib.hid (bel_trans B2.out hb3)
    have K3 := Lib.hid (K2.out.step hb3)
    skip
    have hs3 : m2 ≤ w3.heap.size := by omega
    clear Jc0 Jc1 Jc2 Jc3 Jc4
    clear T2 H2 F2 Gn2 Jn2 O2 B2 K2 hs2 hb3 hz3
    have Gc2 := G3.out.get 2 (.bool hr) rfl
    have Gc3 := G3.out.get 3 (.bool hw) rfl
    have Gc4 := G3.out.get 4 (.bool hx) rfl
    have Gc5 := G3.out.get 5 (.bool ha) rfl
    have Gc6 := G3.out.get 6 (.bool hn) rfl
    have Gc7 := G3.out.get 7 (.int .i64 hs) rfl
    go_wp2_with (at_builtin; refine wpList_growR (K := KA) rfl _ _ rfl none 0 ([] : List Atr) rfl rfl (fun _ => rfl) (fun b hb => by cases hb) _ 1 (⟨hr, hw, hx, ha, hn, hs⟩ : Atr) rfl (fun i hi => (BoxAt.newAt (w3) #[.bool hr, .bool hw, .bool hx, .bool ha, .bool hn, .int .i64 hs] 34 (w3.heap.size) (by first | omega | (simp; done) | (simp; omega))).cell i) (by decide) ?_; intro f4a c4a w4 hO4 hb4; clear Gc2 Gc3 Gc4 Gc5 Gc6 Gc7; have hz4 := hb4.size; simp at hz4; have T4 := Lib.hid ((T3.out.alloc (.cells #[.bool hr, .bool hw, .bool hx, .bool ha, .bool hn, .int .i64 hs] 34)).below hb4); have H4 := Lib.hid ((H3.out.alloc (.cells #[.bool hr, .bool hw, .bool hx, .bool ha, .bool hn, .int .i64 hs] 34)).below hb4); have F4 := Lib.hid ((F3.out.alloc (.cells #[.bool hr, .bool hw, .bool hx, .bool ha, .bool hn, .int .i64 hs] 34)).below hb4); have G4 := Lib.hid ((G3.out.alloc (.cells #[.bool hr, .bool hw, .bool hx, .bool ha, .bool hn, .int .i64 hs] 34)).below hb4); have J4 := Lib.hid ((J3.out.alloc (.cells #[.bool hr, .bool hw, .bool hx, .bool ha, .bool hn, .int .i64 hs] 34)).below hb4); have O4 := Lib.hid ((O3.out.alloc (.cells #[.bool hr, .bool hw, .bool hx, .bool ha, .bool hn, .int .i64 hs] 34)).below hb4); have B4 := Lib.hid (bel_trans (bel_alloc B3.out (.cells #[.bool hr, .bool hw, .bool hx, .bool ha, .bool hn, .int .i64 hs] 34)) hb4); have K4 := Lib.hid ((K3.out.alloc (.cells #[.bool hr, .bool hw, .bool hx, .bool ha, .bool hn, .int .i64 hs] 34)).step hb4); have hs4 : m2 ≤ w4.heap.size := (by omega); have Q4 := Lib.hid (OwnR.mono hO4 (base' := w.heap.size) (by first | omega | (simp; done) | (simp; omega))); clear T3 H3 F3 G3 J3 O3 B3 K3 hb4 hO4 hz4 hs3)
    refine (HBo.out _ _ _ _ Q4.out.rows.2 rfl).mono ?_
    rintro e w5 ⟨rfl, hb5⟩
    have hz5 := hb5.size
    have T5 := Lib.hid (T4.out.below hb5)
    have H5 := Lib.hid (H4.out.below hb5)
    have F5 := Lib.hid (F4.out.below hb5)
    have G5 := Lib.hid (G4.out.below hb5)
    have J5 := Lib.hid (J4.out.below hb5)
    have O5 := Lib.hid (O4.out.below hb5)
    have Q5 := Lib.hid (Q4.out.below hb5)
    have B5 := Lib.hid (bel_trans B4.out hb5)
    have K5 := Lib.hid (K4.out.step hb5)
    skip
    have hs5 : m2 ≤ w5.heap.size := by omega
    clear T4 H4 F4 G4 J4 O4 Q4 B4 K4 hs4 hb5 hz5
    have Gc2 := G5.out.get 2 (.bool hr) rfl
    have Gc3 := G5.out.get 3 (.bool hw) rfl
    have Gc4 := G5.out.get 4 (.bool hx) rfl
    have Gc5 := G5.out.get 5 (.bool ha) rfl
    have Gc6 := G5.out.get 6 (.bool hn) rfl
    have Gc7 := G5.out.get 7 (.int .i64 hs) rfl
    have Gz2 := G5.out.free 2
    have Gz3 := G5.out.free 3
    have Gz4 := G5.out.free 4
    have Gz5 := G5.out.free 5
    have Gz6 := G5.out.free 6
    have Gz7 := G5.out.free 7
    go_upto_region 5 with fail
    clear Gc2 Gc3 Gc4 Gc5 Gc6 Gc7 Gz2 Gz3 Gz4 Gz5 Gz6 Gz7
    have T6 := Lib.hid (((((((T5.out.other ⟨bG, 2, none⟩ (.bool br) (show tb ≠ bG by omega)).other ⟨bG, 3, none⟩ (.bool bw) (show tb ≠ bG by omega)).other ⟨bG, 4, none⟩ (.bool bx) (show tb ≠ bG by omega)).other ⟨bG, 5, none⟩ (.bool ba) (show tb ≠ bG by omega)).other ⟨bG, 6, none⟩ (.bool bn) (show tb ≠ bG by omega)).other ⟨bG, 7, none⟩ (.int .i64 bs) (show tb ≠ bG by omega)))
    have H6 := Lib.hid (((((((H5.out.other ⟨bG, 2, none⟩ (.bool br) (show g1 ≠ bG by omega)).other ⟨bG, 3, none⟩ (.bool bw) (show g1 ≠ bG by omega)).other ⟨bG, 4, none⟩ (.bool bx) (show g1 ≠ bG by omega)).other ⟨bG, 5, none⟩ (.bool ba) (show g1 ≠ bG by omega)).other ⟨bG, 6, none⟩ (.bool bn) (show g1 ≠ bG by omega)).other ⟨bG, 7, none⟩ (.int .i64 bs) (show g1 ≠ bG by omega)))
    have F6 := Lib.hid (((((((F5.out.other ⟨bG, 2, none⟩ (.bool br) (show g1 + 1 ≠ bG by omega)).other ⟨bG, 3, none⟩ (.bool bw) (show g1 + 1 ≠ bG by omega)).other ⟨bG, 4, none⟩ (.bool bx) (show g1 + 1 ≠ bG by omega)).other ⟨bG, 5, none⟩ (.bool ba) (show g1 + 1 ≠ bG by omega)).other ⟨bG, 6, none⟩ (.bool bn) (show g1 + 1 ≠ bG by omega)).other ⟨bG, 7, none⟩ (.int .i64 bs) (show g1 + 1 ≠ bG by omega)))
    have G6 := Lib.hid (((((((G5.out.set 2 (.bool br) #[.int .i64 hf, .int .i64 hm, .bool br, .bool hw, .bool hx, .bool ha, .bool hn, .int .i64 hs, .int .i64 hl] rfl).set 3 (.bool bw) #[.int .i64 hf, .int .i64 hm, .bool br, .bool bw, .bool hx, .bool ha, .bool hn, .int .i64 hs, .int .i64 hl] rfl).set 4 (.bool bx) #[.int .i64 hf, .int .i64 hm, .bool br, .bool bw, .bool bx, .bool ha, .bool hn, .int .i64 hs, .int .i64 hl] rfl).set 5 (.bool ba) #[.int .i64 hf, .int .i64 hm, .bool br, .bool bw, .bool bx, .bool ba, .bool hn, .int .i64 hs, .int .i64 hl] rfl).set 6 (.bool bn) #[.int .i64 hf, .int .i64 hm, .bool br, .bool bw, .bool bx, .bool ba, .bool bn, .int .i64 hs, .int .i64 hl] rfl).set 7 (.int .i64 bs) #[.int .i64 hf, .int .i64 hm, .bool br, .bool bw, .bool bx, .bool ba, .bool bn, .int .i64 bs, .int .i64 hl] rfl))
    have J6 := Lib.hid (((((((J5.out.other ⟨bG, 2, none⟩ (.bool br) (show bJ ≠ bG by omega)).other ⟨bG, 3, none⟩ (.bool bw) (show bJ ≠ bG by omega)).other ⟨bG, 4, none⟩ (.bool bx) (show bJ ≠ bG by omega)).other ⟨bG, 5, none⟩ (.bool ba) (show bJ ≠ bG by omega)).other ⟨bG, 6, none⟩ (.bool bn) (show bJ ≠ bG by omega)).other ⟨bG, 7, none⟩ (.int .i64 bs) (show bJ ≠ bG by omega)))
    have O6 := Lib.hid (((((((O5.out.otherN ⟨bG, 2, none⟩ (.bool br) (O5.out.ne_box G5.out (by decide))).otherN ⟨bG, 3, none⟩ (.bool bw) (O5.out.ne_box G5.out (by decide))).otherN ⟨bG, 4, none⟩ (.bool bx) (O5.out.ne_box G5.out (by decide))).otherN ⟨bG, 5, none⟩ (.bool ba) (O5.out.ne_box G5.out (by decide))).otherN ⟨bG, 6, none⟩ (.bool bn) (O5.out.ne_box G5.out (by decide))).otherN ⟨bG, 7, none⟩ (.int .i64 bs) (O5.out.ne_box G5.out (by decide))))
    have Q6 := Lib.hid (((((((Q5.out.otherN ⟨bG, 2, none⟩ (.bool br) (Q5.out.ne_box G5.out (by decide))).otherN ⟨bG, 3, none⟩ (.bool bw) (Q5.out.ne_box G5.out (by decide))).otherN ⟨bG, 4, none⟩ (.bool bx) (Q5.out.ne_box G5.out (by decide))).otherN ⟨bG, 5, none⟩ (.bool ba) (Q5.out.ne_box G5.out (by decide))).otherN ⟨bG, 6, none⟩ (.bool bn) (Q5.out.ne_box G5.out (by decide))).otherN ⟨bG, 7, none⟩ (.int .i64 bs) (Q5.out.ne_box G5.out (by decide))))
    have B6 := Lib.hid ((Below.setCell (Below.setCell (Below.setCell (Below.setCell (Below.setCell (Below.setCell B5.out (p := ⟨bG, 2, none⟩) (show w0.heap.size ≤ bG by omega) (.bool br)) (p := ⟨bG, 3, none⟩) (show w0.heap.size ≤ bG by omega) (.bool bw)) (p := ⟨bG, 4, none⟩) (show w0.heap.size ≤ bG by omega) (.bool bx)) (p := ⟨bG, 5, none⟩) (show w0.heap.size ≤ bG by omega) (.bool ba)) (p := ⟨bG, 6, none⟩) (show w0.heap.size ≤ bG by omega) (.bool bn)) (p := ⟨bG, 7, none⟩) (show w0.heap.size ≤ bG by omega) (.int .i64 bs)))
    have K6 := Lib.hid (((((((K5.out.high ⟨bG, 2, none⟩ (.bool br) (show w.heap.size ≤ bG by omega)).high ⟨bG, 3, none⟩ (.bool bw) (show w.heap.size ≤ bG by omega)).high ⟨bG, 4, none⟩ (.bool bx) (show w.heap.size ≤ bG by omega)).high ⟨bG, 5, none⟩ (.bool ba) (show w.heap.size ≤ bG by omega)).high ⟨bG, 6, none⟩ (.bool bn) (show w.heap.size ≤ bG by omega)).high ⟨bG, 7, none⟩ (.int .i64 bs) (show w.heap.size ≤ bG by omega)))
    obtain ⟨W6, hW6⟩ : ∃ W6, W6 = ((((((w5).setCell ⟨bG, 2, none⟩ (.bool br)).setCell ⟨bG, 3, none⟩ (.bool bw)).setCell ⟨bG, 4, none⟩ (.bool bx)).setCell ⟨bG, 5, none⟩ (.bool ba)).setCell ⟨bG, 6, none⟩ (.bool bn)).setCell ⟨bG, 7, none⟩ (.int .i64 bs) := ⟨_, rfl⟩
    have hs6 : m2 ≤ W6.heap.size := by rw [hW6]; first | (simp [World.setCell]; omega) | (simp [World.setCell, World.setRow]; omega) | exact hs5
    rw [← hW6] at T6 H6 F6 G6 J6 O6 Q6 B6 K6 ⊢
    clear hW6 T5 H5 F5 G5 J5 O5 Q5 B5 K5 hs5
    have Tc11 := T6.out.get 11 (.int .i64 lv) rfl
    have Gc8 := G6.out.get 8 (.int .i64 hl) rfl
    have Gz8 := G6.out.free 8
    go_upto_region 6 with fail
    clear Tc11 Gc8 Gz8
    have T7 := Lib.hid ((T6.out.other ⟨bG, 8, none⟩ (.int .i64 lv) (show tb ≠ bG by omega)))
    have H7 := Lib.hid ((H6.out.other ⟨bG, 8, none⟩ (.int .i64 lv) (show g1 ≠ bG by omega)))
    have F7 := Lib.hid ((F6.out.other ⟨bG, 8, none⟩ (.int .i64 lv) (show g1 + 1 ≠ bG by omega)))
    have G7 := Lib.hid ((G6.out.set 8 (.int .i64 lv) #[.int .i64 hf, .int .i64 hm, .bool br, .bool bw, .bool bx, .bool ba, .bool bn, .int .i64 bs, .int .i64 lv] rfl))
    have J7 := Lib.hid ((J6.out.other ⟨bG, 8, none⟩ (.int .i64 lv) (show bJ ≠ bG by omega)))
    have O7 := Lib.hid ((O6.out.otherN ⟨bG, 8, none⟩ (.int .i64 lv) (O6.out.ne_box G6.out (by decide))))
    have Q7 := Lib.hid ((Q6.out.otherN ⟨bG, 8, none⟩ (.int .i64 lv) (Q6.out.ne_box G6.out (by decide))))
    have B7 := Lib.hid ((Below.setCell B6.out (p := ⟨bG, 8, none⟩) (show w0.heap.size ≤ bG by omega) (.int .i64 lv)))
    have K7 := Lib.hid ((K6.out.high ⟨bG, 8, none⟩ (.int .i64 lv) (show w.heap.size ≤ bG by omega)))
    obtain ⟨W7, hW7⟩ : ∃ W7, W7 = (W6).setCell ⟨bG, 8, none⟩ (.int .i64 lv) := ⟨_, rfl⟩
    have hs7 : m2 ≤ W7.heap.size := by rw [hW7]; first | (simp [World.setCell]; omega) | (simp [World.setCell, World.setRow]; omega) | exact hs6
    rw [← hW7] at T7 H7 F7 G7 J7 O7 Q7 B7 K7 ⊢
    clear hW7 T6 H6 F6 G6 J6 O6 Q6 B6 K6 hs6
    have Gc0 := G7.out.get 0 (.int .i64 hf) rfl
    have Gc1 := G7.out.get 1 (.int .i64 hm) rfl
    have Gc2 := G7.out.get 2 (.bool br) rfl
    have Gc3 := G7.out.get 3 (.bool bw) rfl
    have Gc4 := G7.out.get 4 (.bool bx) rfl
    have Gc5 := G7.out.get 5 (.bool ba) rfl
    have Gc6 := G7.out.get 6 (.bool bn) rfl
    have Gc7 := G7.out.get 7 (.int .i64 bs) rfl
    have Gc8 := G7.out.get 8 (.int .i64 lv) rfl
    go_wp2_with (first | (refine wpList_storeB rfl 36 _ _ rfl (g1) #[.int .i64 hf, .int .i64 hm, .bool br, .bool bw, .bool bx, .bool ba, .bool bn, .int .i64 bs, .int .i64 lv] _ 36 rfl rfl (by kernel_rfl) (by rfl) (by simp [Value.oneCell']) H7.out ?_) | (refine wpList_storeB rfl 38 _ _ rfl (g1 + 1) #[.int .i64 0, .int .i64 0, .int .i64 0, .bool false, .int .i64 0] _ 38 rfl rfl (by kernel_rfl) (by rfl) (by simp [Value.oneCell']) (F7.out.row (cs' := #[.int .i64 hf, .int .i64 hm, .bool br, .bool bw, .bool bx, .bool ba, .bool bn, .int .i64 bs, .int .i64 lv]) (show g1 + 1 ≠ g1 by omega)) ?_))
    have RH := ((H7.out.put (cs' := #[.int .i64 hf, .int .i64 hm, .bool br, .bool bw, .bool bx, .bool ba, .bool bn, .int .i64 bs, .int .i64 lv])).row (cs' := #[.int .i64 0, .int .i64 0, .int .i64 0, .bool false, .int .i64 0]) (show g1 ≠ g1 + 1 by omega))
    have RF := ((F7.out.row (cs' := #[.int .i64 hf, .int .i64 hm, .bool br, .bool bw, .bool bx, .bool ba, .bool bn, .int .i64 bs, .int .i64 lv]) (show g1 + 1 ≠ g1 by omega)).put (cs' := #[.int .i64 0, .int .i64 0, .int .i64 0, .bool false, .int .i64 0]))
    refine bodyPost_ret (v := .tuple #[.agg #[.int .i64 hf, .int .i64 hm, .bool br, .bool bw, .bool bx, .bool ba, .bool bn, .int .i64 bs, .int .i64 lv], .agg #[.int .i64 0, .int .i64 0, .int .i64 0, .bool false, .int .i64 0]]) (by simp [results, Tryz.results46, go_sem, RH.get 0 (.int .i64 hf) rfl, RH.get 1 (.int .i64 hm) rfl, RH.get 2 (.bool br) rfl, RH.get 3 (.bool bw) rfl, RH.get 4 (.bool bx) rfl, RH.get 5 (.bool ba) rfl, RH.get 6 (.bool bn) rfl, RH.get 7 (.int .i64 bs) rfl, RH.get 8 (.int .i64 lv) rfl, RF.get 0 (.int .i64 0) rfl, RF.get 1 (.int .i64 0) rfl, RF.get 2 (.int .i64 0) rfl, RF.get 3 (.bool false) rfl, RF.get 4 (.int .i64 0) rfl]) rfl ?_
    have e1 : (R ++ Q).length = R.length + Q.length := by simp
    refine ⟨f2, c2, rfl, ?_, ?_, ((K7.out.row (g1) #[.int .i64 hf, .int .i64 hm, .bool br, .bool bw, .bool bx, .bool ba, .bool bn, .int .i64 bs, .int .i64 lv] (show w.heap.size ≤ g1 by omega)).row (g1 + 1) #[.int .i64 0, .int .i64 0, .int .i64 0, .bool false, .int .i64 0] (show w.heap.size ≤ g1 + 1 by omega))⟩
    · simp only [e1]; exact ((T7.out.row (cs' := #[.int .i64 hf, .int .i64 hm, .bool br, .bool bw, .bool bx, .bool ba, .bool bn, .int .i64 bs, .int .i64 lv]) (show tb ≠ g1 by omega)).row (cs' := #[.int .i64 0, .int .i64 0, .int .i64 0, .bool false, .int .i64 0]) (show tb ≠ g1 + 1 by omega))
    · simp only [e1]; exact ((O7.out.rowN (cs := #[.int .i64 hf, .int .i64 hm, .bool br, .bool bw, .bool bx, .bool ba, .bool bn, .int .i64 bs, .int .i64 lv]) (O7.out.ne_box H7.out (by decide))).rowN (cs := #[.int .i64 0, .int .i64 0, .int .i64 0, .bool false, .int .i64 0]) (O7.out.ne_box F7.out (by decide)))
  · rw [if_neg hk0]
    have df : (fk != 0) = true := by simp [hk0]
    clear hk0
    go_enter Tryz.func46, Tryz.ntmps46
    go_upto_region 1 with fail
    have T1 := Lib.hid (((T0.out.alloc (.cells z9 36)).alloc (.cells z5 38)))
    have H1 := Lib.hid (((BoxAt.newAt (w) z9 36 (w.heap.size) (by first | omega | (simp; done) | (simp; omega))).alloc (.cells z5 38)))
    have F1 := Lib.hid ((BoxAt.newAt ((w).alloc (.cells z9 36)) z5 38 (w.heap.size + 1) (by first | omega | (simp; done) | (simp; omega))))
    have O1 := Lib.hid (((O0.out.alloc (.cells z9 36)).alloc (.cells z5 38)))
    have B1 := Lib.hid ((bel_alloc (bel_alloc HB0.out (.cells z9 36)) (.cells z5 38)))
    have K1 := Lib.hid (((K0.out.alloc (.cells z9 36)).alloc (.cells z5 38)))
    obtain ⟨g1, hg1⟩ : ∃ g1, g1 = w.heap.size := ⟨_, rfl⟩
    obtain ⟨W1, hW1⟩ : ∃ W1, W1 = ((w).alloc (.cells z9 36)).alloc (.cells z5 38) := ⟨_, rfl⟩
    have hs1 : g1 + 1 + 1 ≤ W1.heap.size := by rw [hW1, hg1]; simp
    rw [← hW1] at T1 H1 F1 O1 B1 K1 ⊢
    have hb1 : w.heap.size ≤ g1 := by omega
    rw [← hg1] at H1 F1 ⊢
    clear hg1
    clear hW1 T0 O0 HB0 K0
    have hcs : g1 + 1 + 1 ≤ W1.heap.size := by omega
    refine wp_region_table (X := Option Addr × Nat) (none, 0) (I0 := fun w' => Below W1.heap.size W1 w') (I1 := fun xJ w' => Kep tb (B) [3] W1 w' ∧ BoxAt w' tb #[.slice f l c, .bool on, .int .i64 tf, .int .i64 tg, .slice xJ.1 (R.length + Q.length) xJ.2, .bool on1, .int .i64 of1, .int .i64 og1, .int .i64 pg, .int .i64 acc1, .int .i64 cur, .int .i64 lv] 68 ∧ OwnI w' (B) (.slice xJ.1 (R.length + Q.length) xJ.2) (R ++ Q)) (lo := W1.heap.size) (c := 11) (U := [⟨(some 9), .con (.pointer (some ⟨tb, 0, none⟩))⟩, ⟨(some 10), .con (.pointer (some ⟨tb, 0, none⟩))⟩, ⟨(some 11), .con (.pointer (some ⟨tb, 0, none⟩))⟩, ⟨(some 12), .con (.pointer (some ⟨tb, 0, none⟩))⟩, ⟨(some 13), .con (.pointer (some ⟨tb, 0, none⟩))⟩, ⟨(some 14), .con (.pointer (some ⟨tb, 10, none⟩))⟩, ⟨(some 15), .ld (.int .i64 cur)⟩, ⟨(some 16), .con (.pointer (some ⟨tb, 0, none⟩))⟩, ⟨(some 17), .con (.pointer (some ⟨tb, 0, none⟩))⟩, ⟨(some 18), .con (.pointer (some ⟨tb, 9, none⟩))⟩, ⟨(some 19), .ld (.int .i64 acc1)⟩, ⟨(some 20), .cal fun xJ => .tuple #[.agg #[.int .i64 hf, .int .i64 hm, .bool hr, .bool hw, .bool hx, .bool ha, .bool hn, .int .i64 hs, .int .i64 hl], .agg #[.int .i64 fk, .int .i64 fs, .int .i64 fl, .bool fw, .int .i64 fp]]⟩, ⟨(some 8), .res fun xJ => .tuple #[.agg #[.int .i64 hf, .int .i64 hm, .bool hr, .bool hw, .bool hx, .bool ha, .bool hn, .int .i64 hs, .int .i64 hl], .agg #[.int .i64 fk, .int .i64 fs, .int .i64 fl, .bool fw, .int .i64 fp]]⟩, ⟨(some 21), .res fun xJ => .agg #[.int .i64 hf, .int .i64 hm, .bool hr, .bool hw, .bool hx, .bool ha, .bool hn, .int .i64 hs, .int .i64 hl]⟩, ⟨(some 22), .res fun xJ => .agg #[.int .i64 fk, .int .i64 fs, .int .i64 fl, .bool fw, .int .i64 fp]⟩, ⟨(some 6), .new 36 #[.int .i64 0, .int .i64 0, .bool false, .bool false, .bool false, .bool false, .bool false, .int .i64 0, .int .i64 0]⟩, ⟨(some 7), .new 38 #[.int .i64 0, .int .i64 0, .int .i64 0, .bool false, .int .i64 0]⟩, ⟨none, .sto 15 fun xJ => #[.int .i64 hf, .int .i64 hm, .bool hr, .bool hw, .bool hx, .bool ha, .bool hn, .int .i64 hs, .int .i64 hl]⟩, ⟨none, .sto 16 fun xJ => #[.int .i64 fk, .int .i64 fs, .int .i64 fl, .bool fw, .int .i64 fp]⟩])
      (V := fun xJ => .tuple #[.agg #[.int .i64 hf, .int .i64 hm, .bool hr, .bool hw, .bool hx, .bool ha, .bool hn, .int .i64 hs, .int .i64 hl], .agg #[.int .i64 fk, .int .i64 fs, .int .i64 fl, .bool fw, .int .i64 fp]]) (f := 25) (args := #[.pointer (some ⟨tb, 0, none⟩), .int .i64 cur, .int .i64 acc1]) (dc := some 20) (by kernel_rfl) (fun _ _ => rfl) (by kernel_rfl) (by kernel_rfl) rfl
      (AllObl.all ⟨fun _ _ _ => by kernel_rfl, fun _ _ _ => by kernel_rfl, fun _ _ _ => by kernel_rfl, fun _ _ _ => by kernel_rfl, fun _ _ _ => by kernel_rfl, fun _ _ _ => by kernel_rfl, fun _ _ _ hJ => run_ld1 3 (.tmp 14) tb 10 (by kernel_rfl) (by kernel_rfl) Tryz.underlying3 rfl ((T1.out.below hJ).get 10 (.int .i64 cur) rfl), fun _ _ _ => by kernel_rfl, fun _ _ _ => by kernel_rfl, fun _ _ _ => by kernel_rfl, fun _ _ _ hJ => run_ld1 3 (.tmp 18) tb 9 (by kernel_rfl) (by kernel_rfl) Tryz.underlying3 rfl ((T1.out.below hJ).get 9 (.int .i64 acc1) rfl), trivial, fun _ _ _ => by kernel_rfl, fun _ _ _ => by kernel_rfl, fun _ _ _ => by kernel_rfl, fun _ _ _ => by kernel_rfl, fun _ _ _ => by kernel_rfl, ⟨_, _, _, rfl, fun _ _ _ hJ => run_stoB 36 (.tmp 6) (.tmp 21) _ (by kernel_rfl) (by kernel_rfl) (by kernel_rfl) (by kernel_rfl) (by rfl) (by simp [Value.oneCell']) hJ⟩, ⟨_, _, _, rfl, fun _ _ _ hJ => run_stoB 38 (.tmp 7) (.tmp 22) _ (by kernel_rfl) (by kernel_rfl) (by kernel_rfl) (by kernel_rfl) (by rfl) (by simp [Value.oneCell']) hJ⟩, trivial⟩)
      (fun _ oJ hJ => bel_alloc hJ oJ) (fun xJ _ oJ hJ => ⟨hJ.1.alloc oJ, hJ.2.1.alloc oJ, hJ.2.2.alloc oJ⟩) (fun xJ _ bJ csJ dsJ tJ iJ zJ dJ hiJ hbJ hxJ hJ => ⟨hJ.1.row bJ dsJ hbJ, hJ.2.1.row (show tb ≠ bJ by omega), hJ.2.2.rowN (hJ.2.2.ne_box hxJ (fun eJ => newsOk_spec (bad := [3]) (by kernel_rfl) hiJ (by rw [eJ]; exact List.mem_cons_self ..)))⟩) (fun _ hJ => hJ.size) (fun xJ _ hJ => hJ.1.size) (fun _ _ _ _ => by kernel_rfl)
      (fun wJ hJ => (HR.out _ (bel_trans B1.out hJ) (by have := hJ.size; first | omega | (simp; done) | (simp; omega)) (O1.out.below hJ) (T1.out.below hJ)).mono (by rintro _ w2J ⟨f, c, rfl, qT, qO, qW⟩; exact ⟨(f, c), rfl, ⟨(Kep.of hJ).trans qW, qT, qO⟩, fun bJ csJ tJ iJ zJ dJ hiJ hlJ hxJ => qW.box hxJ (newsOk_spec (by kernel_rfl) hiJ) (show bJ ≠ tb by omega)⟩)) (Below.drew (Below.refl _ _)) ?_
    rintro ⟨f2, c2⟩ βJ w2c ⟨q2_0, q2_1, q2_2⟩ hNW
    obtain ⟨hbG2, QG2⟩ := hNW.full 15 17 (by kernel_rfl) rfl rfl
    obtain ⟨hbJ2, QJ2⟩ := hNW.full 16 18 (by kernel_rfl) rfl rfl
    have hn2_01 := hNW.ne 15 16 _ _ _ _ _ _ rfl rfl rfl rfl (by decide)
    clear hNW
    simp only [putU, if_true, Act.put, Knd.val, List.setIfInBounds_toArray, List.set_cons_zero, List.set_cons_succ]
    generalize βJ 15 = bG at *
    generalize βJ 16 = bJ at *
    clear βJ
    have hz2 := q2_0.size
    have T2 := Lib.hid (q2_1)
    have H2 := Lib.hid ((q2_0.box H1.out (by decide) (show g1 ≠ tb by omega)))
    have F2 := Lib.hid ((q2_0.box F1.out (by decide) (show g1 + 1 ≠ tb by omega)))
    have O2 := Lib.hid (q2_2)
    have B2 := Lib.hid ((q2_0.under B1.out (by first | omega | (simp; done) | (simp; omega)) (show w0.heap.size ≤ tb by omega) (show w0.heap.size ≤ B by omega)))
    have K2 := Lib.hid ((K1.out.trans q2_0))
    have Gn2 := Lib.hid (QG2)
    have Jn2 := Lib.hid (QJ2)
    obtain ⟨m2, hm2⟩ : ∃ m2, m2 = w2c.heap.size := ⟨_, rfl⟩
    have hbm2 : g1 + 1 + 1 ≤ m2 := by omega
    have hlG2 : bG + 1 ≤ m2 := by rw [hm2]; exact QG2.lt
    have hgG2 : g1 + 1 + 1 ≤ bG := by omega
    have hlJ2 : bJ + 1 ≤ m2 := by rw [hm2]; exact QJ2.lt
    have hgJ2 : g1 + 1 + 1 ≤ bJ := by omega
    have hs2 : m2 ≤ w2c.heap.size := by omega
    clear hm2 hz2 hcs q2_0 q2_1 q2_2 QG2 hbG2 QJ2 hbJ2 T1 H1 F1 O1 B1 K1 hs1
    have Jc0 := Jn2.out.get 0 (.int .i64 fk) rfl
    have Jc1 := Jn2.out.get 1 (.int .i64 fs) rfl
    have Jc2 := Jn2.out.get 2 (.int .i64 fl) rfl
    have Jc3 := Jn2.out.get 3 (.bool fw) rfl
    have Jc4 := Jn2.out.get 4 (.int .i64 fp) rfl
    go_wp2_with fail
    refine (HIF.out _ _ _ _ _ _).mono ?_
    rintro e w3 ⟨rfl, hb3⟩
    have hz3 := hb3.size
    have T3 := Lib.hid (T2.out.below hb3)
    have H3 := Lib.hid (H2.out.below hb3)
    have F3 := Lib.hid (F2.out.below hb3)
    have G3 := Lib.hid (Gn2.out.below hb3)
    have J3 := Lib.hid (Jn2.out.below hb3)
    have O3 := Lib.hid (O2.out.below hb3)
    have B3 := Lib.hid (bel_trans B2.out hb3)
    have K3 := Lib.hid (K2.out.step hb3)
    skip
    have hs3 : m2 ≤ w3.heap.size := by omega
    clear Jc0 Jc1 Jc2 Jc3 Jc4
    clear T2 H2 F2 Gn2 Jn2 O2 B2 K2 hs2 hb3 hz3
    go_upto_region 3 with fail
    refine wp_region_held_drew (S := (fun w' => BoxAt w' (bJ) #[.int .i64 fk, .int .i64 fs, .int .i64 fl, .bool fw, .int .i64 fp] 38)) (by kernel_rfl) (J3.out.drew) (fun hS => ?_)
    refine tkR 0 25 (v := .agg #[.int .i64 0, .int .i64 0, .bool false, .bool false, .bool false, .bool false, .bool false, .int .i64 0, .int .i64 0]) rfl hS (fun _ _ => by kernel_rfl) ?_
    refine tkR 1 26 (v := .agg #[.int .i64 fk, .int .i64 fs, .int .i64 fl, .bool fw, .int .i64 fp]) rfl hS (fun _ h => run_ldN 38 (.tmp 7) bJ 0 (by kernel_rfl) (by kernel_rfl) Tryz.underlying38 rfl (by kernel_rfl) ((h).sub 0 _ rfl)) ?_
    try simp only [Act.put, List.setIfInBounds_toArray, List.set_cons_zero, List.set_cons_succ]
    refine wpAnyH_ready (rs := [2]) (by kernel_rfl) (by simp) ?_
    refine AllReadyH.cons (o := ⟨none, _, _, _, _, _⟩) rfl (fun K hK => ?_) AllReadyH.nil
    refine step_storeB rfl 36 _ _ rfl _ _ _ 36 rfl rfl (by kernel_rfl) (by rfl) (by simp [Value.oneCell']) (H3.out.drew) ?_
    refine hK.out _ _ ?_ (fun hS' => ?_)
    · exact (hS.row (show bJ ≠ g1 by omega))
    clear hK K hS
    have hS := hS'
    clear hS'
    try simp only [Act.put]
    try simp only [Act.put, List.setIfInBounds_toArray, List.set_cons_zero, List.set_cons_succ]
    refine wpAnyH_ready (rs := [3]) (by kernel_rfl) (by simp) ?_
    refine AllReadyH.cons (o := ⟨none, _, _, _, _, _⟩) rfl (fun K hK => ?_) AllReadyH.nil
    refine step_storeB rfl 38 _ _ rfl _ _ _ 38 rfl rfl (by kernel_rfl) (by rfl) (by simp [Value.oneCell']) ((F3.out.drew).row (cs' := #[.int .i64 0, .int .i64 0, .bool false, .bool false, .bool false, .bool false, .bool false, .int .i64 0, .int .i64 0]) (show g1 + 1 ≠ g1 by omega)) ?_
    refine hK.out _ _ ?_ (fun hS' => ?_)
    · exact (hS.row (show bJ ≠ g1 + 1 by omega))
    clear hK K hS
    have hS := hS'
    clear hS'
    try simp only [Act.put]
    refine wpAnyH_done (by kernel_rfl) ?_ _
    try simp only [Act.put, List.setIfInBounds_toArray, List.set_cons_zero, List.set_cons_succ]
    have T4 := Lib.hid ((((T3.out.drew).row (cs' := #[.int .i64 0, .int .i64 0, .bool false, .bool false, .bool false, .bool false, .bool false, .int .i64 0, .int .i64 0]) (show tb ≠ g1 by omega)).row (cs' := #[.int .i64 fk, .int .i64 fs, .int .i64 fl, .bool fw, .int .i64 fp]) (show tb ≠ g1 + 1 by omega)))
    have H4 := Lib.hid ((((H3.out.drew).put (cs' := #[.int .i64 0, .int .i64 0, .bool false, .bool false, .bool false, .bool false, .bool false, .int .i64 0, .int .i64 0])).row (cs' := #[.int .i64 fk, .int .i64 fs, .int .i64 fl, .bool fw, .int .i64 fp]) (show g1 ≠ g1 + 1 by omega)))
    have F4 := Lib.hid ((((F3.out.drew).row (cs' := #[.int .i64 0, .int .i64 0, .bool false, .bool false, .bool false, .bool false, .bool false, .int .i64 0, .int .i64 0]) (show g1 + 1 ≠ g1 by omega)).put (cs' := #[.int .i64 fk, .int .i64 fs, .int .i64 fl, .bool fw, .int .i64 fp])))
    have G4 := Lib.hid ((((G3.out.drew).row (cs' := #[.int .i64 0, .int .i64 0, .bool false, .bool false, .bool false, .bool false, .bool false, .int .i64 0, .int .i64 0]) (show bG ≠ g1 by omega)).row (cs' := #[.int .i64 fk, .int .i64 fs, .int .i64 fl, .bool fw, .int .i64 fp]) (show bG ≠ g1 + 1 by omega)))
    have J4 := Lib.hid ((((J3.out.drew).row (cs' := #[.int .i64 0, .int .i64 0, .bool false, .bool false, .bool false, .bool false, .bool false, .int .i64 0, .int .i64 0]) (show bJ ≠ g1 by omega)).row (cs' := #[.int .i64 fk, .int .i64 fs, .int .i64 fl, .bool fw, .int .i64 fp]) (show bJ ≠ g1 + 1 by omega)))
    have O4 := Lib.hid ((((O3.out.drew).rowN (cs := #[.int .i64 0, .int .i64 0, .bool false, .bool false, .bool false, .bool false, .bool false, .int .i64 0, .int .i64 0]) (O3.out.ne_box H3.out (by decide))).rowN (cs := #[.int .i64 fk, .int .i64 fs, .int .i64 fl, .bool fw, .int .i64 fp]) (O3.out.ne_box F3.out (by decide))))
    have B4 := Lib.hid ((Below.rowB (g := g1 + 1) (Below.rowB (g := g1) (Below.drew B3.out) (cs := #[.int .i64 0, .int .i64 0, .bool false, .bool false, .bool false, .bool false, .bool false, .int .i64 0, .int .i64 0]) (show w0.heap.size ≤ g1 by omega)) (cs := #[.int .i64 fk, .int .i64 fs, .int .i64 fl, .bool fw, .int .i64 fp]) (show w0.heap.size ≤ g1 + 1 by omega)))
    have K4 := Lib.hid ((((K3.out.drew).row (g1) #[.int .i64 0, .int .i64 0, .bool false, .bool false, .bool false, .bool false, .bool false, .int .i64 0, .int .i64 0] (show w.heap.size ≤ g1 by omega)).row (g1 + 1) #[.int .i64 fk, .int .i64 fs, .int .i64 fl, .bool fw, .int .i64 fp] (show w.heap.size ≤ g1 + 1 by omega)))
    obtain ⟨W4, hW4⟩ : ∃ W4, W4 = (((w3).drew).setRow (g1) #[.int .i64 0, .int .i64 0, .bool false, .bool false, .bool false, .bool false, .bool false, .int .i64 0, .int .i64 0]).setRow (g1 + 1) #[.int .i64 fk, .int .i64 fs, .int .i64 fl, .bool fw, .int .i64 fp] := ⟨_, rfl⟩
    have hs4 : m2 ≤ W4.heap.size := by rw [hW4]; first | exact hs3 | (simp; omega)
    rw [← hW4] at T4 H4 F4 G4 J4 O4 B4 K4 ⊢
    clear hW4 T3 H3 F3 G3 J3 O3 B3 K3 hs3
    go_wp2
    have RH := H4.out
    have RF := F4.out
    refine bodyPost_ret (v := .tuple #[.agg #[.int .i64 0, .int .i64 0, .bool false, .bool false, .bool false, .bool false, .bool false, .int .i64 0, .int .i64 0], .agg #[.int .i64 fk, .int .i64 fs, .int .i64 fl, .bool fw, .int .i64 fp]]) (by simp [results, Tryz.results46, go_sem, RH.get 0 (.int .i64 0) rfl, RH.get 1 (.int .i64 0) rfl, RH.get 2 (.bool false) rfl, RH.get 3 (.bool false) rfl, RH.get 4 (.bool false) rfl, RH.get 5 (.bool false) rfl, RH.get 6 (.bool false) rfl, RH.get 7 (.int .i64 0) rfl, RH.get 8 (.int .i64 0) rfl, RF.get 0 (.int .i64 fk) rfl, RF.get 1 (.int .i64 fs) rfl, RF.get 2 (.int .i64 fl) rfl, RF.get 3 (.bool fw) rfl, RF.get 4 (.int .i64 fp) rfl]) rfl ?_
    have e1 : (R ++ Q).length = R.length + Q.length := by simp
    refine ⟨f2, c2, rfl, ?_, ?_, K4.out⟩
    · simp only [e1]; exact T4.out
    · simp only [e1]; exact O4.out
set_option maxRecDepth 100000 in
set_option maxHeartbeats 3200000 in
theorem nlandS_any (f : Option Addr) (l c : Nat) (X : Nat → BitVec 64) (on : Bool) (tf tg : Int) (on1 : Bool) (of1 og1 pg acc1 cur lv : Int) (t : Atr) (ab : Nat) (f' : Option Addr) (c' : Nat) (R : List Int) (tb B : Nat) (w0 w : World) (hac : numB acc1 2 = true) (hX : WordsAt w0 f l X) (hlc : l ≤ c) (hM : okM l = true) (t0 : 0 ≤ tf) (t1 : tf ≤ 4095)
    (hB0 : Below w0.heap.size w0 w) (h0 : w0.heap.size ≤ tb) (hBw : B ≤ w.heap.size) (htB : tb < B) (hO : OwnI w B (.slice f' R.length c') R) (hk : R.length ≤ 50) (m0 : 0 ≤ cur) (m1 : cur ≤ 4095) (hT : BoxAt w tb #[.slice f l c, .bool on, .int .i64 tf, .int .i64 tg, .slice f' R.length c', .bool on1, .int .i64 of1, .int .i64 og1, .int .i64 pg, .int .i64 acc1, .int .i64 cur, .int .i64 lv] 68) (hab : BoxAt w ab (atrC t) 34) (hne : ab ≠ tb) :
    Calls Tryz.prog 46 #[.pointer (some ⟨tb, 0, none⟩), .slice (some ⟨ab, 0, none⟩) 1 1] w (LandN f l c on tf tg on1 of1 og1 pg acc1 cur lv tb B R (landD l X on tf cur acc1 lv [t]) w) := by
  have HR := Lib.hid (fun W hB0 hBw hO hT => nreachT_any f l c X on tf tg on1 of1 og1 pg acc1 cur lv cur acc1 f' c' R tb B w0 W hac hX hlc hM t0 t1 m0 m1 hB0 h0 hBw htB hO (by omega) hT)
  have HIF := Lib.hid (fun fk fs fl fw fp W => nfault_any ⟨fk, fs, fl, fw, fp⟩ W)
  unfold fltV at HIF
  simp only at HIF
  have hq4 := (midD_len l X on tf t0 cur acc1 m0)
  have T0 := Lib.hid hT
  have O0 := Lib.hid hO
  have HB0 := Lib.hid hB0
  have HX := Lib.hid hX
  have K0 := Lib.hid (Kep.refl (tb := tb) (B := B) (ow := [3]) w)
  clear hX hB0 hT hO
  clear t0 t1 m0 m1 hlc hM hac HX
  have hlb : ab < w.heap.size := hab.lt
  have A0 := Lib.hid hab
  clear hab
  obtain ⟨tr, tw, tx, ta, tn, ts⟩ := t
  unfold atrC at A0
  simp only at A0
  unfold landD
  generalize midD l X on tf cur acc1 = q at *
  obtain ⟨⟨hf, hm, ⟨hr, hw, hx, ha, hn, hs⟩, hl⟩, ⟨fk, fs, fl, fw, fp⟩, Q⟩ := q
  simp only at hq4 ⊢
  by_cases hk0 : fk = 0
  · rw [if_pos hk0]
    have df : (fk != 0) = false := by rw [hk0]; rfl
    clear hk0
    obtain ⟨r, hr0⟩ : ∃ r, r = bothL ([(⟨tr, tw, tx, ta, tn, ts⟩ : Atr)] ++ [(⟨hr, hw, hx, ha, hn, hs⟩ : Atr)]) := ⟨_, rfl⟩
    have HBo := Lib.hid (fun fz nz cz W hLz hnz => bothC fz nz cz ([(⟨tr, tw, tx, ta, tn, ts⟩ : Atr)] ++ [(⟨hr, hw, hx, ha, hn, hs⟩ : Atr)]) W hLz hnz (by simp))
    rw [← hr0] at HBo ⊢
    clear hr0
    obtain ⟨br, bw, bx, ba, bn, bs⟩ := r
    unfold atrV atrC at HBo
    simp only at HBo
    go_enter Tryz.func46, Tryz.ntmps46
    go_upto_region 1 with fail
    have T1 := Lib.hid (((T0.out.alloc (.cells z9 36)).alloc (.cells z5 38)))
    have A1 := Lib.hid (((A0.out.alloc (.cells z9 36)).alloc (.cells z5 38)))
    have H1 := Lib.hid (((BoxAt.newAt (w) z9 36 (w.heap.size) (by first | omega | (simp; done) | (simp; omega))).alloc (.cells z5 38)))
    have F1 := Lib.hid ((BoxAt.newAt ((w).alloc (.cells z9 36)) z5 38 (w.heap.size + 1) (by first | omega | (simp; done) | (simp; omega))))
    have O1 := Lib.hid (((O0.out.alloc (.cells z9 36)).alloc (.cells z5 38)))
    have B1 := Lib.hid ((bel_alloc (bel_alloc HB0.out (.cells z9 36)) (.cells z5 38)))
    have K1 := Lib.hid (((K0.out.alloc (.cells z9 36)).alloc (.cells z5 38)))
    obtain ⟨g1, hg1⟩ : ∃ g1, g1 = w.heap.size := ⟨_, rfl⟩
    obtain ⟨W1, hW1⟩ : ∃ W1, W1 = ((w).alloc (.cells z9 36)).alloc (.cells z5 38) := ⟨_, rfl⟩
    have hs1 : g1 + 1 + 1 ≤ W1.heap.size := by rw [hW1, hg1]; simp
    rw [← hW1] at T1 A1 H1 F1 O1 B1 K1 ⊢
    have hb1 : w.heap.size ≤ g1 := by omega
    rw [← hg1] at H1 F1 ⊢
    clear hg1
    clear hW1 T0 A0 O0 HB0 K0
    have hcs : g1 + 1 + 1 ≤ W1.heap.size := by omega
    refine wp_region_table (X := Option Addr × Nat) (none, 0) (I0 := fun w' => Below W1.heap.size W1 w') (I1 := fun xJ w' => Kep tb (B) [3] W1 w' ∧ BoxAt w' tb #[.slice f l c, .bool on, .int .i64 tf, .int .i64 tg, .slice xJ.1 (R.length + Q.length) xJ.2, .bool on1, .int .i64 of1, .int .i64 og1, .int .i64 pg, .int .i64 acc1, .int .i64 cur, .int .i64 lv] 68 ∧ OwnI w' (B) (.slice xJ.1 (R.length + Q.length) xJ.2) (R ++ Q)) (lo := W1.heap.size) (c := 11) (U := [⟨(some 9), .con (.pointer (some ⟨tb, 0, none⟩))⟩, ⟨(some 10), .con (.pointer (some ⟨tb, 0, none⟩))⟩, ⟨(some 11), .con (.pointer (some ⟨tb, 0, none⟩))⟩, ⟨(some 12), .con (.pointer (some ⟨tb, 0, none⟩))⟩, ⟨(some 13), .con (.pointer (some ⟨tb, 0, none⟩))⟩, ⟨(some 14), .con (.pointer (some ⟨tb, 10, none⟩))⟩, ⟨(some 15), .ld (.int .i64 cur)⟩, ⟨(some 16), .con (.pointer (some ⟨tb, 0, none⟩))⟩, ⟨(some 17), .con (.pointer (some ⟨tb, 0, none⟩))⟩, ⟨(some 18), .con (.pointer (some ⟨tb, 9, none⟩))⟩, ⟨(some 19), .ld (.int .i64 acc1)⟩, ⟨(some 20), .cal fun xJ => .tuple #[.agg #[.int .i64 hf, .int .i64 hm, .bool hr, .bool hw, .bool hx, .bool ha, .bool hn, .int .i64 hs, .int .i64 hl], .agg #[.int .i64 fk, .int .i64 fs, .int .i64 fl, .bool fw, .int .i64 fp]]⟩, ⟨(some 8), .res fun xJ => .tuple #[.agg #[.int .i64 hf, .int .i64 hm, .bool hr, .bool hw, .bool hx, .bool ha, .bool hn, .int .i64 hs, .int .i64 hl], .agg #[.int .i64 fk, .int .i64 fs, .int .i64 fl, .bool fw, .int .i64 fp]]⟩, ⟨(some 21), .res fun xJ => .agg #[.int .i64 hf, .int .i64 hm, .bool hr, .bool hw, .bool hx, .bool ha, .bool hn, .int .i64 hs, .int .i64 hl]⟩, ⟨(some 22), .res fun xJ => .agg #[.int .i64 fk, .int .i64 fs, .int .i64 fl, .bool fw, .int .i64 fp]⟩, ⟨(some 6), .new 36 #[.int .i64 0, .int .i64 0, .bool false, .bool false, .bool false, .bool false, .bool false, .int .i64 0, .int .i64 0]⟩, ⟨(some 7), .new 38 #[.int .i64 0, .int .i64 0, .int .i64 0, .bool false, .int .i64 0]⟩, ⟨none, .sto 15 fun xJ => #[.int .i64 hf, .int .i64 hm, .bool hr, .bool hw, .bool hx, .bool ha, .bool hn, .int .i64 hs, .int .i64 hl]⟩, ⟨none, .sto 16 fun xJ => #[.int .i64 fk, .int .i64 fs, .int .i64 fl, .bool fw, .int .i64 fp]⟩])
      (V := fun xJ => .tuple #[.agg #[.int .i64 hf, .int .i64 hm, .bool hr, .bool hw, .bool hx, .bool ha, .bool hn, .int .i64 hs, .int .i64 hl], .agg #[.int .i64 fk, .int .i64 fs, .int .i64 fl, .bool fw, .int .i64 fp]]) (f := 25) (args := #[.pointer (some ⟨tb, 0, none⟩), .int .i64 cur, .int .i64 acc1]) (dc := some 20) (by kernel_rfl) (fun _ _ => rfl) (by kernel_rfl) (by kernel_rfl) rfl
      (AllObl.all ⟨fun _ _ _ => by kernel_rfl, fun _ _ _ => by kernel_rfl, fun _ _ _ => by kernel_rfl, fun _ _ _ => by kernel_rfl, fun _ _ _ => by kernel_rfl, fun _ _ _ => by kernel_rfl, fun _ _ _ hJ => run_ld1 3 (.tmp 14) tb 10 (by kernel_rfl) (by kernel_rfl) Tryz.underlying3 rfl ((T1.out.below hJ).get 10 (.int .i64 cur) rfl), fun _ _ _ => by kernel_rfl, fun _ _ _ => by kernel_rfl, fun _ _ _ => by kernel_rfl, fun _ _ _ hJ => run_ld1 3 (.tmp 18) tb 9 (by kernel_rfl) (by kernel_rfl) Tryz.underlying3 rfl ((T1.out.below hJ).get 9 (.int .i64 acc1) rfl), trivial, fun _ _ _ => by kernel_rfl, fun _ _ _ => by kernel_rfl, fun _ _ _ => by kernel_rfl, fun _ _ _ => by kernel_rfl, fun _ _ _ => by kernel_rfl, ⟨_, _, _, rfl, fun _ _ _ hJ => run_stoB 36 (.tmp 6) (.tmp 21) _ (by kernel_rfl) (by kernel_rfl) (by kernel_rfl) (by kernel_rfl) (by rfl) (by simp [Value.oneCell']) hJ⟩, ⟨_, _, _, rfl, fun _ _ _ hJ => run_stoB 38 (.tmp 7) (.tmp 22) _ (by kernel_rfl) (by kernel_rfl) (by kernel_rfl) (by kernel_rfl) (by rfl) (by simp [Value.oneCell']) hJ⟩, trivial⟩)
      (fun _ oJ hJ => bel_alloc hJ oJ) (fun xJ _ oJ hJ => ⟨hJ.1.alloc oJ, hJ.2.1.alloc oJ, hJ.2.2.alloc oJ⟩) (fun xJ _ bJ csJ dsJ tJ iJ zJ dJ hiJ hbJ hxJ hJ => ⟨hJ.1.row bJ dsJ hbJ, hJ.2.1.row (show tb ≠ bJ by omega), hJ.2.2.rowN (hJ.2.2.ne_box hxJ (fun eJ => newsOk_spec (bad := [3]) (by kernel_rfl) hiJ (by rw [eJ]; exact List.mem_cons_self ..)))⟩) (fun _ hJ => hJ.size) (fun xJ _ hJ => hJ.1.size) (fun _ _ _ _ => by kernel_rfl)
      (fun wJ hJ => (HR.out _ (bel_trans B1.out hJ) (by have := hJ.size; first | omega | (simp; done) | (simp; omega)) (O1.out.below hJ) (T1.out.below hJ)).mono (by rintro _ w2J ⟨f, c, rfl, qT, qO, qW⟩; exact ⟨(f, c), rfl, ⟨(Kep.of hJ).trans qW, qT, qO⟩, fun bJ csJ tJ iJ zJ dJ hiJ hlJ hxJ => qW.box hxJ (newsOk_spec (by kernel_rfl) hiJ) (show bJ ≠ tb by omega)⟩)) (Below.drew (Below.refl _ _)) ?_
    rintro ⟨f2, c2⟩ βJ w2c ⟨q2_0, q2_1, q2_2⟩ hNW
    obtain ⟨hbG2, QG2⟩ := hNW.full 15 17 (by kernel_rfl) rfl rfl
    obtain ⟨hbJ2, QJ2⟩ := hNW.full 16 18 (by kernel_rfl) rfl rfl
    have hn2_01 := hNW.ne 15 16 _ _ _ _ _ _ rfl rfl rfl rfl (by decide)
    clear hNW
    simp only [putU, if_true, Act.put, Knd.val, List.setIfInBounds_toArray, List.set_cons_zero, List.set_cons_succ]
    generalize βJ 15 = bG at *
    generalize βJ 16 = bJ at *
    clear βJ
    have hz2 := q2_0.size
    have T2 := Lib.hid (q2_1)
    have A2 := Lib.hid ((q2_0.box A1.out (by decide) (show ab ≠ tb by omega)))
    have H2 := Lib.hid ((q2_0.box H1.out (by decide) (show g1 ≠ tb by omega)))
    have F2 := Lib.hid ((q2_0.box F1.out (by decide) (show g1 + 1 ≠ tb by omega)))
    have O2 := Lib.hid (q2_2)
    have B2 := Lib.hid ((q2_0.under B1.out (by first | omega | (simp; done) | (simp; omega)) (show w0.heap.size ≤ tb by omega) (show w0.heap.size ≤ B by omega)))
    have K2 := Lib.hid ((K1.out.trans q2_0))
    have Gn2 := Lib.hid (QG2)
    have Jn2 := Lib.hid (QJ2)
    obtain ⟨m2, hm2⟩ : ∃ m2, m2 = w2c.heap.size := ⟨_, rfl⟩
    have hbm2 : g1 + 1 + 1 ≤ m2 := by omega
    have hlG2 : bG + 1 ≤ m2 := by rw [hm2]; exact QG2.lt
    have hgG2 : g1 + 1 + 1 ≤ bG := by omega
    have hlJ2 : bJ + 1 ≤ m2 := by rw [hm2]; exact QJ2.lt
    have hgJ2 : g1 + 1 + 1 ≤ bJ := by omega
    have hs2 : m2 ≤ w2c.heap.size := by omega
    clear hm2 hz2 hcs q2_0 q2_1 q2_2 QG2 hbG2 QJ2 hbJ2 T1 A1 H1 F1 O1 B1 K1 hs1
    have Jc0 := Jn2.out.get 0 (.int .i64 fk) rfl
    have Jc1 := Jn2.out.get 1 (.int .i64 fs) rfl
    have Jc2 := Jn2.out.get 2 (.int .i64 fl) rfl
    have Jc3 := Jn2.out.get 3 (.bool fw) rfl
    have Jc4 := Jn2.out.get 4 (.int .i64 fp) rfl
    go_wp2_with fail
    refine (HIF.out _ _ _ _ _ _).mono ?_
    rintro e w3 ⟨rfl, hb3⟩
    have hz3 := hb3.size
    have T3 := Lib.hid (T2.out.below hb3)
    have A3 := Lib.hid (A2.out.below hb3)
    have H3 := Lib.hid (H2.out.below hb3)
    have F3 := Lib.hid (F2.out.below hb3)
    have G3 := Lib.hid (Gn2.out.below hb3)
    have J3 := Lib.hid (Jn2.out.below hb3)
    have O3 := Lib.hid (O2.out.below hb3)
    have B3 := Lib.hid (bel_trans B2.out hb3)
    have K3 := Lib.hid (K2.out.step hb3)
    skip
    have hs3 : m2 ≤ w3.heap.size := by omega
    clear Jc0 Jc1 Jc2 Jc3 Jc4
    clear T2 A2 H2 F2 Gn2 Jn2 O2 B2 K2 hs2 hb3 hz3
    have Gc2 := G3.out.get 2 (.bool hr) rfl
    have Gc3 := G3.out.get 3 (.bool hw) rfl
    have Gc4 := G3.out.get 4 (.bool hx) rfl
    have Gc5 := G3.out.get 5 (.bool ha) rfl
    have Gc6 := G3.out.get 6 (.bool hn) rfl
    have Gc7 := G3.out.get 7 (.int .i64 hs) rfl
    go_wp2_with (at_builtin; refine wpList_growR (K := KA) rfl _ _ rfl (some ⟨ab, 0, none⟩) 1 [(⟨tr, tw, tx, ta, tn, ts⟩ : Atr)] rfl rfl (fun h => by cases h) (rows_one (K := KA) (t := ⟨tr, tw, tx, ta, tn, ts⟩) (A3.out.alloc (.cells #[.bool hr, .bool hw, .bool hx, .bool ha, .bool hn, .int .i64 hs] 34))) _ 1 (⟨hr, hw, hx, ha, hn, hs⟩ : Atr) rfl (fun i hi => (BoxAt.newAt (w3) #[.bool hr, .bool hw, .bool hx, .bool ha, .bool hn, .int .i64 hs] 34 (w3.heap.size) (by first | omega | (simp; done) | (simp; omega))).cell i) (by decide) ?_; intro f4a c4a w4 hO4 hb4; clear Gc2 Gc3 Gc4 Gc5 Gc6 Gc7; have hz4 := hb4.size; simp at hz4; have T4 := Lib.hid ((T3.out.alloc (.cells #[.bool hr, .bool hw, .bool hx, .bool ha, .bool hn, .int .i64 hs] 34)).below hb4); have A4 := Lib.hid ((A3.out.alloc (.cells #[.bool hr, .bool hw, .bool hx, .bool ha, .bool hn, .int .i64 hs] 34)).below hb4); have H4 := Lib.hid ((H3.out.alloc (.cells #[.bool hr, .bool hw, .bool hx, .bool ha, .bool hn, .int .i64 hs] 34)).below hb4); have F4 := Lib.hid ((F3.out.alloc (.cells #[.bool hr, .bool hw, .bool hx, .bool ha, .bool hn, .int .i64 hs] 34)).below hb4); have G4 := Lib.hid ((G3.out.alloc (.cells #[.bool hr, .bool hw, .bool hx, .bool ha, .bool hn, .int .i64 hs] 34)).below hb4); have J4 := Lib.hid ((J3.out.alloc (.cells #[.bool hr, .bool hw, .bool hx, .bool ha, .bool hn, .int .i64 hs] 34)).below hb4); have O4 := Lib.hid ((O3.out.alloc (.cells #[.bool hr, .bool hw, .bool hx, .bool ha, .bool hn, .int .i64 hs] 34)).below hb4); have B4 := Lib.hid (bel_trans (bel_alloc B3.out (.cells #[.bool hr, .bool hw, .bool hx, .bool ha, .bool hn, .int .i64 hs] 34)) hb4); have K4 := Lib.hid ((K3.out.alloc (.cells #[.bool hr, .bool hw, .bool hx, .bool ha, .bool hn, .int .i64 hs] 34)).step hb4); have hs4 : m2 ≤ w4.heap.size := (by omega); have Q4 := Lib.hid (OwnR.mono hO4 (base' := w.heap.size) (by first | omega | (simp; done) | (simp; omega))); clear T3 A3 H3 F3 G3 J3 O3 B3 K3 hb4 hO4 hz4 hs3)
    refine (HBo.out _ _ _ _ Q4.out.rows.2 rfl).mono ?_
    rintro e w5 ⟨rfl, hb5⟩
    have hz5 := hb5.size
    have T5 := Lib.hid (T4.out.below hb5)
    have A5 := Lib.hid (A4.out.below hb5)
    have H5 := Lib.hid (H4.out.below hb5)
    have F5 := Lib.hid (F4.out.below hb5)
    have G5 := Lib.hid (G4.out.below hb5)
    have J5 := Lib.hid (J4.out.below hb5)
    have O5 := Lib.hid (O4.out.below hb5)
    have Q5 := Lib.hid (Q4.out.below hb5)
    have B5 := Lib.hid (bel_trans B4.out hb5)
    have K5 := Lib.hid (K4.out.step hb5)
    skip
    have hs5 : m2 ≤ w5.heap.size := by omega
    clear T4 A4 H4 F4 G4 J4 O4 Q4 B4 K4 hs4 hb5 hz5
    have Gc2 := G5.out.get 2 (.bool hr) rfl
    have Gc3 := G5.out.get 3 (.bool hw) rfl
    have Gc4 := G5.out.get 4 (.bool hx) rfl
    have Gc5 := G5.out.get 5 (.bool ha) rfl
    have Gc6 := G5.out.get 6 (.bool hn) rfl
    have Gc7 := G5.out.get 7 (.int .i64 hs) rfl
    have Gz2 := G5.out.free 2
    have Gz3 := G5.out.free 3
    have Gz4 := G5.out.free 4
    have Gz5 := G5.out.free 5
    have Gz6 := G5.out.free 6
    have Gz7 := G5.out.free 7
    go_upto_region 5 with fail
    clear Gc2 Gc3 Gc4 Gc5 Gc6 Gc7 Gz2 Gz3 Gz4 Gz5 Gz6 Gz7
    have T6 := Lib.hid (((((((T5.out.other ⟨bG, 2, none⟩ (.bool br) (show tb ≠ bG by omega)).other ⟨bG, 3, none⟩ (.bool bw) (show tb ≠ bG by omega)).other ⟨bG, 4, none⟩ (.bool bx) (show tb ≠ bG by omega)).other ⟨bG, 5, none⟩ (.bool ba) (show tb ≠ bG by omega)).other ⟨bG, 6, none⟩ (.bool bn) (show tb ≠ bG by omega)).other ⟨bG, 7, none⟩ (.int .i64 bs) (show tb ≠ bG by omega)))
    have A6 := Lib.hid (((((((A5.out.other ⟨bG, 2, none⟩ (.bool br) (show ab ≠ bG by omega)).other ⟨bG, 3, none⟩ (.bool bw) (show ab ≠ bG by omega)).other ⟨bG, 4, none⟩ (.bool bx) (show ab ≠ bG by omega)).other ⟨bG, 5, none⟩ (.bool ba) (show ab ≠ bG by omega)).other ⟨bG, 6, none⟩ (.bool bn) (show ab ≠ bG by omega)).other ⟨bG, 7, none⟩ (.int .i64 bs) (show ab ≠ bG by omega)))
    have H6 := Lib.hid (((((((H5.out.other ⟨bG, 2, none⟩ (.bool br) (show g1 ≠ bG by omega)).other ⟨bG, 3, none⟩ (.bool bw) (show g1 ≠ bG by omega)).other ⟨bG, 4, none⟩ (.bool bx) (show g1 ≠ bG by omega)).other ⟨bG, 5, none⟩ (.bool ba) (show g1 ≠ bG by omega)).other ⟨bG, 6, none⟩ (.bool bn) (show g1 ≠ bG by omega)).other ⟨bG, 7, none⟩ (.int .i64 bs) (show g1 ≠ bG by omega)))
    have F6 := Lib.hid (((((((F5.out.other ⟨bG, 2, none⟩ (.bool br) (show g1 + 1 ≠ bG by omega)).other ⟨bG, 3, none⟩ (.bool bw) (show g1 + 1 ≠ bG by omega)).other ⟨bG, 4, none⟩ (.bool bx) (show g1 + 1 ≠ bG by omega)).other ⟨bG, 5, none⟩ (.bool ba) (show g1 + 1 ≠ bG by omega)).other ⟨bG, 6, none⟩ (.bool bn) (show g1 + 1 ≠ bG by omega)).other ⟨bG, 7, none⟩ (.int .i64 bs) (show g1 + 1 ≠ bG by omega)))
    have G6 := Lib.hid (((((((G5.out.set 2 (.bool br) #[.int .i64 hf, .int .i64 hm, .bool br, .bool hw, .bool hx, .bool ha, .bool hn, .int .i64 hs, .int .i64 hl] rfl).set 3 (.bool bw) #[.int .i64 hf, .int .i64 hm, .bool br, .bool bw, .bool hx, .bool ha, .bool hn, .int .i64 hs, .int .i64 hl] rfl).set 4 (.bool bx) #[.int .i64 hf, .int .i64 hm, .bool br, .bool bw, .bool bx, .bool ha, .bool hn, .int .i64 hs, .int .i64 hl] rfl).set 5 (.bool ba) #[.int .i64 hf, .int .i64 hm, .bool br, .bool bw, .bool bx, .bool ba, .bool hn, .int .i64 hs, .int .i64 hl] rfl).set 6 (.bool bn) #[.int .i64 hf, .int .i64 hm, .bool br, .bool bw, .bool bx, .bool ba, .bool bn, .int .i64 hs, .int .i64 hl] rfl).set 7 (.int .i64 bs) #[.int .i64 hf, .int .i64 hm, .bool br, .bool bw, .bool bx, .bool ba, .bool bn, .int .i64 bs, .int .i64 hl] rfl))
    have J6 := Lib.hid (((((((J5.out.other ⟨bG, 2, none⟩ (.bool br) (show bJ ≠ bG by omega)).other ⟨bG, 3, none⟩ (.bool bw) (show bJ ≠ bG by omega)).other ⟨bG, 4, none⟩ (.bool bx) (show bJ ≠ bG by omega)).other ⟨bG, 5, none⟩ (.bool ba) (show bJ ≠ bG by omega)).other ⟨bG, 6, none⟩ (.bool bn) (show bJ ≠ bG by omega)).other ⟨bG, 7, none⟩ (.int .i64 bs) (show bJ ≠ bG by omega)))
    have O6 := Lib.hid (((((((O5.out.otherN ⟨bG, 2, none⟩ (.bool br) (O5.out.ne_box G5.out (by decide))).otherN ⟨bG, 3, none⟩ (.bool bw) (O5.out.ne_box G5.out (by decide))).otherN ⟨bG, 4, none⟩ (.bool bx) (O5.out.ne_box G5.out (by decide))).otherN ⟨bG, 5, none⟩ (.bool ba) (O5.out.ne_box G5.out (by decide))).otherN ⟨bG, 6, none⟩ (.bool bn) (O5.out.ne_box G5.out (by decide))).otherN ⟨bG, 7, none⟩ (.int .i64 bs) (O5.out.ne_box G5.out (by decide))))
    have Q6 := Lib.hid (((((((Q5.out.otherN ⟨bG, 2, none⟩ (.bool br) (Q5.out.ne_box G5.out (by decide))).otherN ⟨bG, 3, none⟩ (.bool bw) (Q5.out.ne_box G5.out (by decide))).otherN ⟨bG, 4, none⟩ (.bool bx) (Q5.out.ne_box G5.out (by decide))).otherN ⟨bG, 5, none⟩ (.bool ba) (Q5.out.ne_box G5.out (by decide))).otherN ⟨bG, 6, none⟩ (.bool bn) (Q5.out.ne_box G5.out (by decide))).otherN ⟨bG, 7, none⟩ (.int .i64 bs) (Q5.out.ne_box G5.out (by decide))))
    have B6 := Lib.hid ((Below.setCell (Below.setCell (Below.setCell (Below.setCell (Below.setCell (Below.setCell B5.out (p := ⟨bG, 2, none⟩) (show w0.heap.size ≤ bG by omega) (.bool br)) (p := ⟨bG, 3, none⟩) (show w0.heap.size ≤ bG by omega) (.bool bw)) (p := ⟨bG, 4, none⟩) (show w0.heap.size ≤ bG by omega) (.bool bx)) (p := ⟨bG, 5, none⟩) (show w0.heap.size ≤ bG by omega) (.bool ba)) (p := ⟨bG, 6, none⟩) (show w0.heap.size ≤ bG by omega) (.bool bn)) (p := ⟨bG, 7, none⟩) (show w0.heap.size ≤ bG by omega) (.int .i64 bs)))
    have K6 := Lib.hid (((((((K5.out.high ⟨bG, 2, none⟩ (.bool br) (show w.heap.size ≤ bG by omega)).high ⟨bG, 3, none⟩ (.bool bw) (show w.heap.size ≤ bG by omega)).high ⟨bG, 4, none⟩ (.bool bx) (show w.heap.size ≤ bG by omega)).high ⟨bG, 5, none⟩ (.bool ba) (show w.heap.size ≤ bG by omega)).high ⟨bG, 6, none⟩ (.bool bn) (show w.heap.size ≤ bG by omega)).high ⟨bG, 7, none⟩ (.int .i64 bs) (show w.heap.size ≤ bG by omega)))
    obtain ⟨W6, hW6⟩ : ∃ W6, W6 = ((((((w5).setCell ⟨bG, 2, none⟩ (.bool br)).setCell ⟨bG, 3, none⟩ (.bool bw)).setCell ⟨bG, 4, none⟩ (.bool bx)).setCell ⟨bG, 5, none⟩ (.bool ba)).setCell ⟨bG, 6, none⟩ (.bool bn)).setCell ⟨bG, 7, none⟩ (.int .i64 bs) := ⟨_, rfl⟩
    have hs6 : m2 ≤ W6.heap.size := by rw [hW6]; first | (simp [World.setCell]; omega) | (simp [World.setCell, World.setRow]; omega) | exact hs5
    rw [← hW6] at T6 A6 H6 F6 G6 J6 O6 Q6 B6 K6 ⊢
    clear hW6 T5 A5 H5 F5 G5 J5 O5 Q5 B5 K5 hs5
    have Tc11 := T6.out.get 11 (.int .i64 lv) rfl
    have Gc8 := G6.out.get 8 (.int .i64 hl) rfl
    have Gz8 := G6.out.free 8
    go_upto_region 6 with fail
    clear Tc11 Gc8 Gz8
    have T7 := Lib.hid ((T6.out.other ⟨bG, 8, none⟩ (.int .i64 lv) (show tb ≠ bG by omega)))
    have A7 := Lib.hid ((A6.out.other ⟨bG, 8, none⟩ (.int .i64 lv) (show ab ≠ bG by omega)))
    have H7 := Lib.hid ((H6.out.other ⟨bG, 8, none⟩ (.int .i64 lv) (show g1 ≠ bG by omega)))
    have F7 := Lib.hid ((F6.out.other ⟨bG, 8, none⟩ (.int .i64 lv) (show g1 + 1 ≠ bG by omega)))
    have G7 := Lib.hid ((G6.out.set 8 (.int .i64 lv) #[.int .i64 hf, .int .i64 hm, .bool br, .bool bw, .bool bx, .bool ba, .bool bn, .int .i64 bs, .int .i64 lv] rfl))
    have J7 := Lib.hid ((J6.out.other ⟨bG, 8, none⟩ (.int .i64 lv) (show bJ ≠ bG by omega)))
    have O7 := Lib.hid ((O6.out.otherN ⟨bG, 8, none⟩ (.int .i64 lv) (O6.out.ne_box G6.out (by decide))))
    have Q7 := Lib.hid ((Q6.out.otherN ⟨bG, 8, none⟩ (.int .i64 lv) (Q6.out.ne_box G6.out (by decide))))
    have B7 := Lib.hid ((Below.setCell B6.out (p := ⟨bG, 8, none⟩) (show w0.heap.size ≤ bG by omega) (.int .i64 lv)))
    have K7 := Lib.hid ((K6.out.high ⟨bG, 8, none⟩ (.int .i64 lv) (show w.heap.size ≤ bG by omega)))
    obtain ⟨W7, hW7⟩ : ∃ W7, W7 = (W6).setCell ⟨bG, 8, none⟩ (.int .i64 lv) := ⟨_, rfl⟩
    have hs7 : m2 ≤ W7.heap.size := by rw [hW7]; first | (simp [World.setCell]; omega) | (simp [World.setCell, World.setRow]; omega) | exact hs6
    rw [← hW7] at T7 A7 H7 F7 G7 J7 O7 Q7 B7 K7 ⊢
    clear hW7 T6 A6 H6 F6 G6 J6 O6 Q6 B6 K6 hs6
    have Gc0 := G7.out.get 0 (.int .i64 hf) rfl
    have Gc1 := G7.out.get 1 (.int .i64 hm) rfl
    have Gc2 := G7.out.get 2 (.bool br) rfl
    have Gc3 := G7.out.get 3 (.bool bw) rfl
    have Gc4 := G7.out.get 4 (.bool bx) rfl
    have Gc5 := G7.out.get 5 (.bool ba) rfl
    have Gc6 := G7.out.get 6 (.bool bn) rfl
    have Gc7 := G7.out.get 7 (.int .i64 bs) rfl
    have Gc8 := G7.out.get 8 (.int .i64 lv) rfl
    go_wp2_with (first | (refine wpList_storeB rfl 36 _ _ rfl (g1) #[.int .i64 hf, .int .i64 hm, .bool br, .bool bw, .bool bx, .bool ba, .bool bn, .int .i64 bs, .int .i64 lv] _ 36 rfl rfl (by kernel_rfl) (by rfl) (by simp [Value.oneCell']) H7.out ?_) | (refine wpList_storeB rfl 38 _ _ rfl (g1 + 1) #[.int .i64 0, .int .i64 0, .int .i64 0, .bool false, .int .i64 0] _ 38 rfl rfl (by kernel_rfl) (by rfl) (by simp [Value.oneCell']) (F7.out.row (cs' := #[.int .i64 hf, .int .i64 hm, .bool br, .bool bw, .bool bx, .bool ba, .bool bn, .int .i64 bs, .int .i64 lv]) (show g1 + 1 ≠ g1 by omega)) ?_))
    have RH := ((H7.out.put (cs' := #[.int .i64 hf, .int .i64 hm, .bool br, .bool bw, .bool bx, .bool ba, .bool bn, .int .i64 bs, .int .i64 lv])).row (cs' := #[.int .i64 0, .int .i64 0, .int .i64 0, .bool false, .int .i64 0]) (show g1 ≠ g1 + 1 by omega))
    have RF := ((F7.out.row (cs' := #[.int .i64 hf, .int .i64 hm, .bool br, .bool bw, .bool bx, .bool ba, .bool bn, .int .i64 bs, .int .i64 lv]) (show g1 + 1 ≠ g1 by omega)).put (cs' := #[.int .i64 0, .int .i64 0, .int .i64 0, .bool false, .int .i64 0]))
    refine bodyPost_ret (v := .tuple #[.agg #[.int .i64 hf, .int .i64 hm, .bool br, .bool bw, .bool bx, .bool ba, .bool bn, .int .i64 bs, .int .i64 lv], .agg #[.int .i64 0, .int .i64 0, .int .i64 0, .bool false, .int .i64 0]]) (by simp [results, Tryz.results46, go_sem, RH.get 0 (.int .i64 hf) rfl, RH.get 1 (.int .i64 hm) rfl, RH.get 2 (.bool br) rfl, RH.get 3 (.bool bw) rfl, RH.get 4 (.bool bx) rfl, RH.get 5 (.bool ba) rfl, RH.get 6 (.bool bn) rfl, RH.get 7 (.int .i64 bs) rfl, RH.get 8 (.int .i64 lv) rfl, RF.get 0 (.int .i64 0) rfl, RF.get 1 (.int .i64 0) rfl, RF.get 2 (.int .i64 0) rfl, RF.get 3 (.bool false) rfl, RF.get 4 (.int .i64 0) rfl]) rfl ?_
    have e1 : (R ++ Q).length = R.length + Q.length := by simp
    refine ⟨f2, c2, rfl, ?_, ?_, ((K7.out.row (g1) #[.int .i64 hf, .int .i64 hm, .bool br, .bool bw, .bool bx, .bool ba, .bool bn, .int .i64 bs, .int .i64 lv] (show w.heap.size ≤ g1 by omega)).row (g1 + 1) #[.int .i64 0, .int .i64 0, .int .i64 0, .bool false, .int .i64 0] (show w.heap.size ≤ g1 + 1 by omega))⟩
    · simp only [e1]; exact ((T7.out.row (cs' := #[.int .i64 hf, .int .i64 hm, .bool br, .bool bw, .bool bx, .bool ba, .bool bn, .int .i64 bs, .int .i64 lv]) (show tb ≠ g1 by omega)).row (cs' := #[.int .i64 0, .int .i64 0, .int .i64 0, .bool false, .int .i64 0]) (show tb ≠ g1 + 1 by omega))
    · simp only [e1]; exact ((O7.out.rowN (cs := #[.int .i64 hf, .int .i64 hm, .bool br, .bool bw, .bool bx, .bool ba, .bool bn, .int .i64 bs, .int .i64 lv]) (O7.out.ne_box H7.out (by decide))).rowN (cs := #[.int .i64 0, .int .i64 0, .int .i64 0, .bool false, .int .i64 0]) (O7.out.ne_box F7.out (by decide)))
  · rw [if_neg hk0]
    have df : (fk != 0) = true := by simp [hk0]
    clear hk0
    go_enter Tryz.func46, Tryz.ntmps46
    go_upto_region 1 with fail
    have T1 := Lib.hid (((T0.out.alloc (.cells z9 36)).alloc (.cells z5 38)))
    have A1 := Lib.hid (((A0.out.alloc (.cells z9 36)).alloc (.cells z5 38)))
    have H1 := Lib.hid (((BoxAt.newAt (w) z9 36 (w.heap.size) (by first | omega | (simp; done) | (simp; omega))).alloc (.cells z5 38)))
    have F1 := Lib.hid ((BoxAt.newAt ((w).alloc (.cells z9 36)) z5 38 (w.heap.size + 1) (by first | omega | (simp; done) | (simp; omega))))
    have O1 := Lib.hid (((O0.out.alloc (.cells z9 36)).alloc (.cells z5 38)))
    have B1 := Lib.hid ((bel_alloc (bel_alloc HB0.out (.cells z9 36)) (.cells z5 38)))
    have K1 := Lib.hid (((K0.out.alloc (.cells z9 36)).alloc (.cells z5 38)))
    obtain ⟨g1, hg1⟩ : ∃ g1, g1 = w.heap.size := ⟨_, rfl⟩
    obtain ⟨W1, hW1⟩ : ∃ W1, W1 = ((w).alloc (.cells z9 36)).alloc (.cells z5 38) := ⟨_, rfl⟩
    have hs1 : g1 + 1 + 1 ≤ W1.heap.size := by rw [hW1, hg1]; simp
    rw [← hW1] at T1 A1 H1 F1 O1 B1 K1 ⊢
    have hb1 : w.heap.size ≤ g1 := by omega
    rw [← hg1] at H1 F1 ⊢
    clear hg1
    clear hW1 T0 A0 O0 HB0 K0
    have hcs : g1 + 1 + 1 ≤ W1.heap.size := by omega
    refine wp_region_table (X := Option Addr × Nat) (none, 0) (I0 := fun w' => Below W1.heap.size W1 w') (I1 := fun xJ w' => Kep tb (B) [3] W1 w' ∧ BoxAt w' tb #[.slice f l c, .bool on, .int .i64 tf, .int .i64 tg, .slice xJ.1 (R.length + Q.length) xJ.2, .bool on1, .int .i64 of1, .int .i64 og1, .int .i64 pg, .int .i64 acc1, .int .i64 cur, .int .i64 lv] 68 ∧ OwnI w' (B) (.slice xJ.1 (R.length + Q.length) xJ.2) (R ++ Q)) (lo := W1.heap.size) (c := 11) (U := [⟨(some 9), .con (.pointer (some ⟨tb, 0, none⟩))⟩, ⟨(some 10), .con (.pointer (some ⟨tb, 0, none⟩))⟩, ⟨(some 11), .con (.pointer (some ⟨tb, 0, none⟩))⟩, ⟨(some 12), .con (.pointer (some ⟨tb, 0, none⟩))⟩, ⟨(some 13), .con (.pointer (some ⟨tb, 0, none⟩))⟩, ⟨(some 14), .con (.pointer (some ⟨tb, 10, none⟩))⟩, ⟨(some 15), .ld (.int .i64 cur)⟩, ⟨(some 16), .con (.pointer (some ⟨tb, 0, none⟩))⟩, ⟨(some 17), .con (.pointer (some ⟨tb, 0, none⟩))⟩, ⟨(some 18), .con (.pointer (some ⟨tb, 9, none⟩))⟩, ⟨(some 19), .ld (.int .i64 acc1)⟩, ⟨(some 20), .cal fun xJ => .tuple #[.agg #[.int .i64 hf, .int .i64 hm, .bool hr, .bool hw, .bool hx, .bool ha, .bool hn, .int .i64 hs, .int .i64 hl], .agg #[.int .i64 fk, .int .i64 fs, .int .i64 fl, .bool fw, .int .i64 fp]]⟩, ⟨(some 8), .res fun xJ => .tuple #[.agg #[.int .i64 hf, .int .i64 hm, .bool hr, .bool hw, .bool hx, .bool ha, .bool hn, .int .i64 hs, .int .i64 hl], .agg #[.int .i64 fk, .int .i64 fs, .int .i64 fl, .bool fw, .int .i64 fp]]⟩, ⟨(some 21), .res fun xJ => .agg #[.int .i64 hf, .int .i64 hm, .bool hr, .bool hw, .bool hx, .bool ha, .bool hn, .int .i64 hs, .int .i64 hl]⟩, ⟨(some 22), .res fun xJ => .agg #[.int .i64 fk, .int .i64 fs, .int .i64 fl, .bool fw, .int .i64 fp]⟩, ⟨(some 6), .new 36 #[.int .i64 0, .int .i64 0, .bool false, .bool false, .bool false, .bool false, .bool false, .int .i64 0, .int .i64 0]⟩, ⟨(some 7), .new 38 #[.int .i64 0, .int .i64 0, .int .i64 0, .bool false, .int .i64 0]⟩, ⟨none, .sto 15 fun xJ => #[.int .i64 hf, .int .i64 hm, .bool hr, .bool hw, .bool hx, .bool ha, .bool hn, .int .i64 hs, .int .i64 hl]⟩, ⟨none, .sto 16 fun xJ => #[.int .i64 fk, .int .i64 fs, .int .i64 fl, .bool fw, .int .i64 fp]⟩])
      (V := fun xJ => .tuple #[.agg #[.int .i64 hf, .int .i64 hm, .bool hr, .bool hw, .bool hx, .bool ha, .bool hn, .int .i64 hs, .int .i64 hl], .agg #[.int .i64 fk, .int .i64 fs, .int .i64 fl, .bool fw, .int .i64 fp]]) (f := 25) (args := #[.pointer (some ⟨tb, 0, none⟩), .int .i64 cur, .int .i64 acc1]) (dc := some 20) (by kernel_rfl) (fun _ _ => rfl) (by kernel_rfl) (by kernel_rfl) rfl
      (AllObl.all ⟨fun _ _ _ => by kernel_rfl, fun _ _ _ => by kernel_rfl, fun _ _ _ => by kernel_rfl, fun _ _ _ => by kernel_rfl, fun _ _ _ => by kernel_rfl, fun _ _ _ => by kernel_rfl, fun _ _ _ hJ => run_ld1 3 (.tmp 14) tb 10 (by kernel_rfl) (by kernel_rfl) Tryz.underlying3 rfl ((T1.out.below hJ).get 10 (.int .i64 cur) rfl), fun _ _ _ => by kernel_rfl, fun _ _ _ => by kernel_rfl, fun _ _ _ => by kernel_rfl, fun _ _ _ hJ => run_ld1 3 (.tmp 18) tb 9 (by kernel_rfl) (by kernel_rfl) Tryz.underlying3 rfl ((T1.out.below hJ).get 9 (.int .i64 acc1) rfl), trivial, fun _ _ _ => by kernel_rfl, fun _ _ _ => by kernel_rfl, fun _ _ _ => by kernel_rfl, fun _ _ _ => by kernel_rfl, fun _ _ _ => by kernel_rfl, ⟨_, _, _, rfl, fun _ _ _ hJ => run_stoB 36 (.tmp 6) (.tmp 21) _ (by kernel_rfl) (by kernel_rfl) (by kernel_rfl) (by kernel_rfl) (by rfl) (by simp [Value.oneCell']) hJ⟩, ⟨_, _, _, rfl, fun _ _ _ hJ => run_stoB 38 (.tmp 7) (.tmp 22) _ (by kernel_rfl) (by kernel_rfl) (by kernel_rfl) (by kernel_rfl) (by rfl) (by simp [Value.oneCell']) hJ⟩, trivial⟩)
      (fun _ oJ hJ => bel_alloc hJ oJ) (fun xJ _ oJ hJ => ⟨hJ.1.alloc oJ, hJ.2.1.alloc oJ, hJ.2.2.alloc oJ⟩) (fun xJ _ bJ csJ dsJ tJ iJ zJ dJ hiJ hbJ hxJ hJ => ⟨hJ.1.row bJ dsJ hbJ, hJ.2.1.row (show tb ≠ bJ by omega), hJ.2.2.rowN (hJ.2.2.ne_box hxJ (fun eJ => newsOk_spec (bad := [3]) (by kernel_rfl) hiJ (by rw [eJ]; exact List.mem_cons_self ..)))⟩) (fun _ hJ => hJ.size) (fun xJ _ hJ => hJ.1.size) (fun _ _ _ _ => by kernel_rfl)
      (fun wJ hJ => (HR.out _ (bel_trans B1.out hJ) (by have := hJ.size; first | omega | (simp; done) | (simp; omega)) (O1.out.below hJ) (T1.out.below hJ)).mono (by rintro _ w2J ⟨f, c, rfl, qT, qO, qW⟩; exact ⟨(f, c), rfl, ⟨(Kep.of hJ).trans qW, qT, qO⟩, fun bJ csJ tJ iJ zJ dJ hiJ hlJ hxJ => qW.box hxJ (newsOk_spec (by kernel_rfl) hiJ) (show bJ ≠ tb by omega)⟩)) (Below.drew (Below.refl _ _)) ?_
    rintro ⟨f2, c2⟩ βJ w2c ⟨q2_0, q2_1, q2_2⟩ hNW
    obtain ⟨hbG2, QG2⟩ := hNW.full 15 17 (by kernel_rfl) rfl rfl
    obtain ⟨hbJ2, QJ2⟩ := hNW.full 16 18 (by kernel_rfl) rfl rfl
    have hn2_01 := hNW.ne 15 16 _ _ _ _ _ _ rfl rfl rfl rfl (by decide)
    clear hNW
    simp only [putU, if_true, Act.put, Knd.val, List.setIfInBounds_toArray, List.set_cons_zero, List.set_cons_succ]
    generalize βJ 15 = bG at *
    generalize βJ 16 = bJ at *
    clear βJ
    have hz2 := q2_0.size
    have T2 := Lib.hid (q2_1)
    have A2 := Lib.hid ((q2_0.box A1.out (by decide) (show ab ≠ tb by omega)))
    have H2 := Lib.hid ((q2_0.box H1.out (by decide) (show g1 ≠ tb by omega)))
    have F2 := Lib.hid ((q2_0.box F1.out (by decide) (show g1 + 1 ≠ tb by omega)))
    have O2 := Lib.hid (q2_2)
    have B2 := Lib.hid ((q2_0.under B1.out (by first | omega | (simp; done) | (simp; omega)) (show w0.heap.size ≤ tb by omega) (show w0.heap.size ≤ B by omega)))
    have K2 := Lib.hid ((K1.out.trans q2_0))
    have Gn2 := Lib.hid (QG2)
    have Jn2 := Lib.hid (QJ2)
    obtain ⟨m2, hm2⟩ : ∃ m2, m2 = w2c.heap.size := ⟨_, rfl⟩
    have hbm2 : g1 + 1 + 1 ≤ m2 := by omega
    have hlG2 : bG + 1 ≤ m2 := by rw [hm2]; exact QG2.lt
    have hgG2 : g1 + 1 + 1 ≤ bG := by omega
    have hlJ2 : bJ + 1 ≤ m2 := by rw [hm2]; exact QJ2.lt
    have hgJ2 : g1 + 1 + 1 ≤ bJ := by omega
    have hs2 : m2 ≤ w2c.heap.size := by omega
    clear hm2 hz2 hcs q2_0 q2_1 q2_2 QG2 hbG2 QJ2 hbJ2 T1 A1 H1 F1 O1 B1 K1 hs1
    have Jc0 := Jn2.out.get 0 (.int .i64 fk) rfl
    have Jc1 := Jn2.out.get 1 (.int .i64 fs) rfl
    have Jc2 := Jn2.out.get 2 (.int .i64 fl) rfl
    have Jc3 := Jn2.out.get 3 (.bool fw) rfl
    have Jc4 := Jn2.out.get 4 (.int .i64 fp) rfl
    go_wp2_with fail
    refine (HIF.out _ _ _ _ _ _).mono ?_
    rintro e w3 ⟨rfl, hb3⟩
    have hz3 := hb3.size
    have T3 := Lib.hid (T2.out.below hb3)
    have A3 := Lib.hid (A2.out.below hb3)
    have H3 := Lib.hid (H2.out.below hb3)
    have F3 := Lib.hid (F2.out.below hb3)
    have G3 := Lib.hid (Gn2.out.below hb3)
    have J3 := Lib.hid (Jn2.out.below hb3)
    have O3 := Lib.hid (O2.out.below hb3)
    have B3 := Lib.hid (bel_trans B2.out hb3)
    have K3 := Lib.hid (K2.out.step hb3)
    skip
    have hs3 : m2 ≤ w3.heap.size := by omega
    clear Jc0 Jc1 Jc2 Jc3 Jc4
    clear T2 A2 H2 F2 Gn2 Jn2 O2 B2 K2 hs2 hb3 hz3
    go_upto_region 3 with fail
    refine wp_region_held_drew (S := (fun w' => BoxAt w' (bJ) #[.int .i64 fk, .int .i64 fs, .int .i64 fl, .bool fw, .int .i64 fp] 38)) (by kernel_rfl) (J3.out.drew) (fun hS => ?_)
    refine tkR 0 25 (v := .agg #[.int .i64 0, .int .i64 0, .bool false, .bool false, .bool false, .bool false, .bool false, .int .i64 0, .int .i64 0]) rfl hS (fun _ _ => by kernel_rfl) ?_
    refine tkR 1 26 (v := .agg #[.int .i64 fk, .int .i64 fs, .int .i64 fl, .bool fw, .int .i64 fp]) rfl hS (fun _ h => run_ldN 38 (.tmp 7) bJ 0 (by kernel_rfl) (by kernel_rfl) Tryz.underlying38 rfl (by kernel_rfl) ((h).sub 0 _ rfl)) ?_
    try simp only [Act.put, List.setIfInBounds_toArray, List.set_cons_zero, List.set_cons_succ]
    refine wpAnyH_ready (rs := [2]) (by kernel_rfl) (by simp) ?_
    refine AllReadyH.cons (o := ⟨none, _, _, _, _, _⟩) rfl (fun K hK => ?_) AllReadyH.nil
    refine step_storeB rfl 36 _ _ rfl _ _ _ 36 rfl rfl (by kernel_rfl) (by rfl) (by simp [Value.oneCell']) (H3.out.drew) ?_
    refine hK.out _ _ ?_ (fun hS' => ?_)
    · exact (hS.row (show bJ ≠ g1 by omega))
    clear hK K hS
    have hS := hS'
    clear hS'
    try simp only [Act.put]
    try simp only [Act.put, List.setIfInBounds_toArray, List.set_cons_zero, List.set_cons_succ]
    refine wpAnyH_ready (rs := [3]) (by kernel_rfl) (by simp) ?_
    refine AllReadyH.cons (o := ⟨none, _, _, _, _, _⟩) rfl (fun K hK => ?_) AllReadyH.nil
    refine step_storeB rfl 38 _ _ rfl _ _ _ 38 rfl rfl (by kernel_rfl) (by rfl) (by simp [Value.oneCell']) ((F3.out.drew).row (cs' := #[.int .i64 0, .int .i64 0, .bool false, .bool false, .bool false, .bool false, .bool false, .int .i64 0, .int .i64 0]) (show g1 + 1 ≠ g1 by omega)) ?_
    refine hK.out _ _ ?_ (fun hS' => ?_)
    · exact (hS.row (show bJ ≠ g1 + 1 by omega))
    clear hK K hS
    have hS := hS'
    clear hS'
    try simp only [Act.put]
    refine wpAnyH_done (by kernel_rfl) ?_ _
    try simp only [Act.put, List.setIfInBounds_toArray, List.set_cons_zero, List.set_cons_succ]
    have T4 := Lib.hid ((((T3.out.drew).row (cs' := #[.int .i64 0, .int .i64 0, .bool false, .bool false, .bool false, .bool false, .bool false, .int .i64 0, .int .i64 0]) (show tb ≠ g1 by omega)).row (cs' := #[.int .i64 fk, .int .i64 fs, .int .i64 fl, .bool fw, .int .i64 fp]) (show tb ≠ g1 + 1 by omega)))
    have A4 := Lib.hid ((((A3.out.drew).row (cs' := #[.int .i64 0, .int .i64 0, .bool false, .bool false, .bool false, .bool false, .bool false, .int .i64 0, .int .i64 0]) (show ab ≠ g1 by omega)).row (cs' := #[.int .i64 fk, .int .i64 fs, .int .i64 fl, .bool fw, .int .i64 fp]) (show ab ≠ g1 + 1 by omega)))
    have H4 := Lib.hid ((((H3.out.drew).put (cs' := #[.int .i64 0, .int .i64 0, .bool false, .bool false, .bool false, .bool false, .bool false, .int .i64 0, .int .i64 0])).row (cs' := #[.int .i64 fk, .int .i64 fs, .int .i64 fl, .bool fw, .int .i64 fp]) (show g1 ≠ g1 + 1 by omega)))
    have F4 := Lib.hid ((((F3.out.drew).row (cs' := #[.int .i64 0, .int .i64 0, .bool false, .bool false, .bool false, .bool false, .bool false, .int .i64 0, .int .i64 0]) (show g1 + 1 ≠ g1 by omega)).put (cs' := #[.int .i64 fk, .int .i64 fs, .int .i64 fl, .bool fw, .int .i64 fp])))
    have G4 := Lib.hid ((((G3.out.drew).row (cs' := #[.int .i64 0, .int .i64 0, .bool false, .bool false, .bool false, .bool false, .bool false, .int .i64 0, .int .i64 0]) (show bG ≠ g1 by omega)).row (cs' := #[.int .i64 fk, .int .i64 fs, .int .i64 fl, .bool fw, .int .i64 fp]) (show bG ≠ g1 + 1 by omega)))
    have J4 := Lib.hid ((((J3.out.drew).row (cs' := #[.int .i64 0, .int .i64 0, .bool false, .bool false, .bool false, .bool false, .bool false, .int .i64 0, .int .i64 0]) (show bJ ≠ g1 by omega)).row (cs' := #[.int .i64 fk, .int .i64 fs, .int .i64 fl, .bool fw, .int .i64 fp]) (show bJ ≠ g1 + 1 by omega)))
    have O4 := Lib.hid ((((O3.out.drew).rowN (cs := #[.int .i64 0, .int .i64 0, .bool false, .bool false, .bool false, .bool false, .bool false, .int .i64 0, .int .i64 0]) (O3.out.ne_box H3.out (by decide))).rowN (cs := #[.int .i64 fk, .int .i64 fs, .int .i64 fl, .bool fw, .int .i64 fp]) (O3.out.ne_box F3.out (by decide))))
    have B4 := Lib.hid ((Below.rowB (g := g1 + 1) (Below.rowB (g := g1) (Below.drew B3.out) (cs := #[.int .i64 0, .int .i64 0, .bool false, .bool false, .bool false, .bool false, .bool false, .int .i64 0, .int .i64 0]) (show w0.heap.size ≤ g1 by omega)) (cs := #[.int .i64 fk, .int .i64 fs, .int .i64 fl, .bool fw, .int .i64 fp]) (show w0.heap.size ≤ g1 + 1 by omega)))
    have K4 := Lib.hid ((((K3.out.drew).row (g1) #[.int .i64 0, .int .i64 0, .bool false, .bool false, .bool false, .bool false, .bool false, .int .i64 0, .int .i64 0] (show w.heap.size ≤ g1 by omega)).row (g1 + 1) #[.int .i64 fk, .int .i64 fs, .int .i64 fl, .bool fw, .int .i64 fp] (show w.heap.size ≤ g1 + 1 by omega)))
    obtain ⟨W4, hW4⟩ : ∃ W4, W4 = (((w3).drew).setRow (g1) #[.int .i64 0, .int .i64 0, .bool false, .bool false, .bool false, .bool false, .bool false, .int .i64 0, .int .i64 0]).setRow (g1 + 1) #[.int .i64 fk, .int .i64 fs, .int .i64 fl, .bool fw, .int .i64 fp] := ⟨_, rfl⟩
    have hs4 : m2 ≤ W4.heap.size := by rw [hW4]; first | exact hs3 | (simp; omega)
    rw [← hW4] at T4 A4 H4 F4 G4 J4 O4 B4 K4 ⊢
    clear hW4 T3 A3 H3 F3 G3 J3 O3 B3 K3 hs3
    go_wp2
    have RH := H4.out
    have RF := F4.out
    refine bodyPost_ret (v := .tuple #[.agg #[.int .i64 0, .int .i64 0, .bool false, .bool false, .bool false, .bool false, .bool false, .int .i64 0, .int .i64 0], .agg #[.int .i64 fk, .int .i64 fs, .int .i64 fl, .bool fw, .int .i64 fp]]) (by simp [results, Tryz.results46, go_sem, RH.get 0 (.int .i64 0) rfl, RH.get 1 (.int .i64 0) rfl, RH.get 2 (.bool false) rfl, RH.get 3 (.bool false) rfl, RH.get 4 (.bool false) rfl, RH.get 5 (.bool false) rfl, RH.get 6 (.bool false) rfl, RH.get 7 (.int .i64 0) rfl, RH.get 8 (.int .i64 0) rfl, RF.get 0 (.int .i64 fk) rfl, RF.get 1 (.int .i64 fs) rfl, RF.get 2 (.int .i64 fl) rfl, RF.get 3 (.bool fw) rfl, RF.get 4 (.int .i64 fp) rfl]) rfl ?_
    have e1 : (R ++ Q).length = R.length + Q.length := by simp
    refine ⟨f2, c2, rfl, ?_, ?_, K4.out⟩
    · simp only [e1]; exact T4.out
    · simp only [e1]; exact O4.out
end Go.Proofs.YtpelolokdmfbdaaGreat
