/- Stage 10: slices.DeleteFunc: contract. -/
import Derived.Test.YtjohnpbfdpmajaaIg
import Derived.Test.YtjohnpbfdpmajaaVd
import Derived.Test.YtjohnpbfdpmajaaLd
set_option linter.all false
namespace Go.Proofs.Ytjohnpbfdpmajaa
open Go.ChangeShapes Go.WideShapes Go.ChangeAt Go.RowKit Go.Deep Go.Shelf

theorem grown_below {w W : World} {row : Option Nat} (h : Below w.heap.size w W) : w.grownBy W row := ⟨h.os, h.tape, h.output, h.size, fun k hk _ => h.block k hk⟩
theorem own_rowE {w : World} {base g n c j : Nat} {L : List Ety} {y : Ety} (h : OwnR KE w base (.slice (some ⟨g, 0, none⟩) n c) L) (hj : L[j]? = some y) : RowAt w g (j * 14) 14 (entC y) := by
  obtain ⟨b, o, he, hr⟩ := h.rows.2 j y hj
  simp only [Option.some.injEq, Addr.mk.injEq, and_true] at he
  obtain ⟨rfl, rfl⟩ := he
  have hr : RowAt w g (0 + j * 14) 14 (entC y) := hr
  rwa [Nat.zero_add] at hr
theorem own_thereE {w : World} {base g n c j : Nat} {L : List Ety} (h : OwnR KE w base (.slice (some ⟨g, 0, none⟩) n c) L) (hj : j < n) : w.there g (j * 14) 14 := by
  obtain ⟨g', he, _, _, ht⟩ := h.there (by omega)
  simp only [Option.some.injEq, Addr.mk.injEq, and_true] at he
  subst he
  exact there_sub (N := 14) ht hj
set_option maxRecDepth 100000 in
theorem zc_one {z : Array Value} (h : ∀ j, j < z.size → (z[j]!).oneCell' = true) (n : Nat) : ∀ v ∈ (Builtin.zeroCells z n).toList, v.oneCell' = true := by
  intro v hv
  simp only [Builtin.zeroCells, Array.toList_map, List.mem_map, Array.toList_range, List.mem_range] at hv
  obtain ⟨i, hi, rfl⟩ := hv
  have : 0 < z.size := by
    rcases Nat.eq_zero_or_pos z.size with h0 | h0
    · rw [h0] at hi; omega
    · exact h0
  exact h _ (Nat.mod_lt _ this)
set_option maxRecDepth 100000 in
theorem clear_rowE {w : World} {base g a m c d : Nat} {L : List Ety} (h : OwnR KE w base (.slice (some ⟨g, 0, none⟩) a c) L) (hm : 0 < m) (hc : a + m ≤ c) :
    ∃ zs : List Value, zs.length = m * 14 ∧ ∀ ty, (Builtin.clear_ #[24] ty #[.slice (some ⟨g, a * 14, none⟩) m d]).run Try.prog w = .ok (.tuple #[]) (w.setCells g (a * 14) zs) := by
  obtain ⟨m, rfl⟩ : ∃ m', m = m' + 1 := ⟨m - 1, by omega⟩
  have hlen : (Builtin.zeroCells KE.z.cells (m + 1)).toList.length = (m + 1) * 14 := by rw [Array.length_toList, size_zeroCells]; rfl
  refine ⟨(Builtin.zeroCells KE.z.cells (m + 1)).toList, hlen, fun ty => ?_⟩
  have hz1 := zc_one (z := KE.z.cells) (by decide) (m + 1)
  obtain ⟨zs, hzs⟩ : ∃ zs, zs = (Builtin.zeroCells KE.z.cells (m + 1)).toList := ⟨_, rfl⟩
  rw [← hzs] at hlen hz1 ⊢
  have hst := run_storeCells_cells (P := Try.prog) g (a * 14) zs 0 w (fun j hj => (h.cell _ (by show a * 14 + 0 + j < c * 14; omega)).1) (fun j hj => (h.cell _ (by show a * 14 + 0 + j < c * 14; omega)).2) hz1
  simp only [Nat.add_zero] at hst
  have hzv : ∀ w : World, (zeroValue 36).run Try.prog w = .ok KE.z w := fun w => rfl
  simp [Builtin.clear_, run_underlying Try.underlying24, hzv, ← hzs, hst]
section
variable {w w0 W : World} {base g a : Nat}
theorem own_setE {n c : Nat} {L : List Ety} (h : OwnR KE w base (.slice (some ⟨g, 0, none⟩) n c) L) (x : Ety) (hi : a < n) (hW : W = w.setCells g (a * 14) (entC x).toList) : OwnR KE W base (.slice (some ⟨g, 0, none⟩) n c) (L.set a x) := by
  subst hW; exact OwnR.setAt (K := KE) h a x hi
theorem below_setE (h : Below base w0 w) (x : Ety) (hb : base ≤ g) (hW : W = w.setCells g (a * 14) (entC x).toList) : Below base w0 W := by
  subst hW; exact below_setCells _ _ _ _ h hb
theorem box_setE {b : Nat} {cs : Array Value} {t : TypeId} (h : BoxAt w b cs t) (x : Ety) (hb : b ≠ g) (hW : W = w.setCells g (a * 14) (entC x).toList) : BoxAt W b cs t := by
  subst hW; exact BoxAt.setCells _ _ _ h hb
theorem grown_setE (h : w0.grownBy w (some g)) (x : Ety) (hW : W = w.setCells g (a * 14) (entC x).toList) : w0.grownBy W (some g) := by
  subst hW; exact h.trans (grownBy_setCells _ _)
end
theorem spX_info : (Try.prog.info? 36).map (·.size) = some 14 := by kernel_rfl
theorem entC_one (e : Ety) : (entC e).all (·.oneCell') = true := by simp [entC, Value.oneCell']
theorem drop_next {L M : List Ety} {k : Nat} (h : L.drop k = M.drop k) : L.drop (k + 1) = M.drop (k + 1) := by rw [← List.drop_drop, ← List.drop_drop, h]
theorem kept_set {pp : Ety → Bool} {E C : List Ety} {k a : Nat} {x : Ety} (hx : E[k]? = some x) (hp : pp x = false) (h1 : C.take a = keptE pp (E.take k)) (h2 : C.drop k = E.drop k) (hl : k < C.length) (ha : a < k) :
    (C.set a x).take (a + 1) = keptE pp (E.take (k + 1)) ∧ (C.set a x).drop (k + 1) = E.drop (k + 1) := by
  refine ⟨?_, ?_⟩
  · rw [kept_yes hx hp, ← h1, List.set_eq_take_append_cons_drop, if_pos (by omega), List.take_append]
    have hl1 : (C.take a).length = a := by rw [List.length_take]; omega
    rw [hl1, List.take_of_length_le (by omega), Nat.add_sub_cancel_left]
    rfl
  · rw [List.drop_set_of_lt (by omega)]
    exact drop_next h2
set_option maxRecDepth 100000 in
set_option maxHeartbeats 3200000 in
theorem delf_any (f : Option Addr) (l c qb base : Nat) (E : List Ety) (pp : Ety → Bool) (cs : Array Value) (tq : TypeId) (w : World) (hO : OwnR KE w base (.slice f l c) E) (hl : l ≤ 90000) (hb : base ≤ w.heap.size) (hq : BoxAt w qb cs tq) (htq : tq ≠ 36) (hpp : ∀ (k : Nat) (x : Ety), E[k]? = some x → ∀ W, BoxAt W qb cs tq → Below base w W → Calls Try.prog 62 #[entV x, .pointer (some ⟨qb, 0, none⟩)] W fun q w' => q = .returned (.bool (pp x)) ∧ Below W.heap.size W w') :
    Calls Try.prog 61 #[.slice f l c, .func (.func 62) #[] #[.pointer (some ⟨qb, 0, none⟩)]] w fun r w' => ∃ n, r = .returned (.slice f n c) ∧ n = (keptE pp E).length ∧ OwnR KE w' base (.slice f n c) (keptE pp E) ∧ w.grownBy w' (Value.slice f l c).ownBlock := by
  have eg : ∀ args w, (callFunc 62 args).run Try.prog w = .ok (.enter 62 args) w := enters_of Try.func62 (by kernel_rfl) rfl
  have HI := Lib.hid (ixf_any f l c qb E pp w hO.rows.2 hO.rows.1 (by omega) (fun k x hx W hB => hpp k x hx W (hq.below hB) (hB.mono hb)))
  have HN := Lib.hid hO.rows.1
  rcases placeE_tell pp E 0 with ⟨h1, h2⟩ | ⟨i, x0, h1, h2, h3, h4⟩
  · rw [h1] at HI
    have HK := Lib.hid (show keptE pp E = E ∧ l = (keptE pp E).length from by
      have h5 : keptE pp E = E := by
        have := kept_all (p := pp) (E := E) (k := E.length) (fun i y _ hy => h2 i y hy)
        rwa [List.take_of_length_le (Nat.le_refl _)] at this
      rw [h5]
      exact ⟨rfl, hO.rows.1⟩)
    have HO := Lib.hid (show OwnR KE w base (.slice f l c) (keptE pp E) from by rw [HK.out.1]; exact hO)
    clear hO hpp hq h1 h2
    have htw : w.heap.size ≤ w.heap.size := Nat.le_refl _
    have B0 := Lib.hid (Below.refl w.heap.size w)
    go_enter Try.func61, Try.ntmps61
    go_wp2_with fail
    refine (HI.out).mono ?_
    rintro e w1 ⟨rfl, hb1⟩
    have hz1 := hb1.size
    have B1 := Lib.hid ((bel_trans B0.out hb1))
    skip
    have hs1 : w.heap.size ≤ w1.heap.size := by omega
    clear B0 hb1 hz1
    go_wp2
    go_ret
    exact ⟨l, rfl, HK.out.2, HK.out.1 ▸ (HO.out.below B1.out), grown_below B1.out⟩
  · have hil : i < l := by have := (List.getElem?_eq_some_iff.1 h1).1; have := hO.rows.1; omega
    obtain ⟨g, rfl, hbg, hgs, _⟩ := hO.there (by omega)
    have HLC := Lib.hid hO.room.1
    have hqg : qb ≠ g := fun he => hO.ne_box hq htq (by rw [he]; rfl)
    rw [h3, Int.zero_add] at HI
    have HK0 := Lib.hid (show E.take i = keptE pp (E.take (i + 1)) from by rw [kept_no h1 h2, kept_all (fun j y hj hy => h4 j y hj hy)])
    have HPP := Lib.hid hpp
    have Q0 := Lib.hid hq
    have E0 := Lib.hid hO
    clear hO hpp hq h1 h2 h3 h4 htq
    have iw : IntKind.i64.wrap ((i : Int) + 1) = (i : Int) + 1 := IntWalk.i64_in _ (by omega)
    have im : ((i : Int) == -1) = false := by simp
    show Calls Try.prog 61 _ w _
    have htw : w.heap.size ≤ w.heap.size := Nat.le_refl _
    have B0 := Lib.hid (Below.refl w.heap.size w)
    go_enter Try.func61, Try.ntmps61
    go_wp2_with fail
    refine (HI.out).mono ?_
    rintro e w1 ⟨rfl, hb1⟩
    have hz1 := hb1.size
    have Q1 := Lib.hid (Q0.out.below hb1)
    have E1 := Lib.hid (E0.out.below hb1)
    have B1 := Lib.hid ((bel_trans B0.out hb1))
    skip
    have hs1 : w.heap.size ≤ w1.heap.size := by omega
    clear Q0 E0 B0 hb1 hz1
    go_wp2
    go_loopw [5, 6] (fun i5 i6 wr => ∃ (k a : Nat) (C : List Ety), k ≤ l ∧ a < k ∧ i5 = .int .i64 a ∧ i6 = .int .i64 k ∧ Hid (OwnR KE wr base (.slice (some ⟨g, 0, none⟩) l c) C) ∧ Hid (C.take a = keptE pp (E.take k) ∧ C.drop k = E.drop k) ∧ Hid (BoxAt wr qb cs tq) ∧ Hid (Below base w wr) ∧ Hid (w.grownBy wr (some g))) (fun _ i6 _ => l - (intOf i6).toNat)
    case atStart => exact ⟨i + 1, i, E, by omega, by omega, rfl, by go_num, E1.out, Lib.hid ⟨HK0.out, rfl⟩, Q1.out, B1.out.mono hb, grown_below B1.out⟩
    case round =>
      clear B1 Q1 E1 HK0
      obtain ⟨k, a, C, hk, ha, rfl, rfl, Er, HC, Qr, Br, Gr⟩ := hrel
      have htr : wr.heap.size ≤ wr.heap.size := Nat.le_refl _
      have Cr := Lib.hid (Below.refl wr.heap.size wr)
      have hqr : qb < wr.heap.size := Qr.out.lt
      have hbr : base ≤ wr.heap.size := Nat.le_trans hb Br.out.size
      have hCl := Lib.hid Er.out.rows.1
      by_cases hlt : k < l
      · obtain ⟨x, hx⟩ := rows_some HN.out hlt
        have hxC : C[k]? = some x := by have h1 := congrArg (·[0]?) HC.out.2; simpa [List.getElem?_drop, hx] using h1
        have HRX := Lib.hid (show RowAt wr g (k * 14) 14 #[.int .i64 x.k, .int .i64 x.vm, .int .i64 x.sp, .bool x.al, .int .i64 x.pg, .int .i64 x.lv, .int .i64 x.fr, .int .i64 x.mi, .bool x.t.r, .bool x.t.w, .bool x.t.x, .bool x.t.a, .bool x.t.n, .int .i64 x.t.s] from own_rowE Er.out hxC)
        have HPE := Lib.hid (fun W hQ hB => HPP.out k x hx W hQ hB)
        have HX := Lib.hid hx
        clear hx hxC
        have hgw : g < wr.heap.size := HRX.out.lt
        have ik0 : (0 : Int) ≤ (k : Int) := by omega
        have ik1 : (k : Int) < (l : Int) := by omega
        have ia0 : (0 : Int) ≤ (a : Int) := by omega
        have ia1 : (a : Int) < (l : Int) := by omega
        have ikw : IntKind.i64.wrap ((k : Int) + 1) = (k : Int) + 1 := IntWalk.i64_in _ (by omega)
        have iaw : IntKind.i64.wrap ((a : Int) + 1) = (a : Int) + 1 := IntWalk.i64_in _ (by omega)
        obtain ⟨o1, ho1⟩ : ∃ o1, o1 = pp x := ⟨_, rfl⟩
        rw [← ho1] at HPE
        have HO1 := Lib.hid ho1
        clear ho1
        unfold entV entC at HPE
        have yX := HRX.out
        have yX0 := yX.get0 (.int .i64 x.k) (by decide) rfl
        have yX1 := yX.get 1 (.int .i64 x.vm) (by decide) rfl
        have yX2 := yX.get 2 (.int .i64 x.sp) (by decide) rfl
        have yX3 := yX.get 3 (.bool x.al) (by decide) rfl
        have yX4 := yX.get 4 (.int .i64 x.pg) (by decide) rfl
        have yX5 := yX.get 5 (.int .i64 x.lv) (by decide) rfl
        have yX6 := yX.get 6 (.int .i64 x.fr) (by decide) rfl
        have yX7 := yX.get 7 (.int .i64 x.mi) (by decide) rfl
        have yX8 := yX.get 8 (.bool x.t.r) (by decide) rfl
        have yX9 := yX.get 9 (.bool x.t.w) (by decide) rfl
        have yX10 := yX.get 10 (.bool x.t.x) (by decide) rfl
        have yX11 := yX.get 11 (.bool x.t.a) (by decide) rfl
        have yX12 := yX.get 12 (.bool x.t.n) (by decide) rfl
        have yX13 := yX.get 13 (.int .i64 x.t.s) (by decide) rfl
        clear yX
        go_upto_region 8 with fail
        clear yX0 yX1 yX2 yX3 yX4 yX5 yX6 yX7 yX8 yX9 yX10 yX11 yX12 yX13
        have Q2 := Lib.hid ((Qr.out.alloc (.cells #[.int .i64 x.k, .int .i64 x.vm, .int .i64 x.sp, .bool x.al, .int .i64 x.pg, .int .i64 x.lv, .int .i64 x.fr, .int .i64 x.mi, .bool x.t.r, .bool x.t.w, .bool x.t.x, .bool x.t.a, .bool x.t.n, .int .i64 x.t.s] 36)))
        have V2 := Lib.hid ((BoxAt.newAt (wr) #[.int .i64 x.k, .int .i64 x.vm, .int .i64 x.sp, .bool x.al, .int .i64 x.pg, .int .i64 x.lv, .int .i64 x.fr, .int .i64 x.mi, .bool x.t.r, .bool x.t.w, .bool x.t.x, .bool x.t.a, .bool x.t.n, .int .i64 x.t.s] 36 (wr.heap.size) (by first | omega | (simp; done) | (simp; omega))))
        have E2 := Lib.hid ((Er.out.alloc (.cells #[.int .i64 x.k, .int .i64 x.vm, .int .i64 x.sp, .bool x.al, .int .i64 x.pg, .int .i64 x.lv, .int .i64 x.fr, .int .i64 x.mi, .bool x.t.r, .bool x.t.w, .bool x.t.x, .bool x.t.a, .bool x.t.n, .int .i64 x.t.s] 36)))
        have B2 := Lib.hid ((Br.out.trans ((bel_alloc (Below.refl _ _) (.cells #[.int .i64 x.k, .int .i64 x.vm, .int .i64 x.sp, .bool x.al, .int .i64 x.pg, .int .i64 x.lv, .int .i64 x.fr, .int .i64 x.mi, .bool x.t.r, .bool x.t.w, .bool x.t.x, .bool x.t.a, .bool x.t.n, .int .i64 x.t.s] 36)).mono (show base ≤ _ from (by first | omega | (simp; done) | (simp; omega))))))
        have C2_ := Lib.hid ((bel_alloc Cr.out (.cells #[.int .i64 x.k, .int .i64 x.vm, .int .i64 x.sp, .bool x.al, .int .i64 x.pg, .int .i64 x.lv, .int .i64 x.fr, .int .i64 x.mi, .bool x.t.r, .bool x.t.w, .bool x.t.x, .bool x.t.a, .bool x.t.n, .int .i64 x.t.s] 36)))
        obtain ⟨g2, hg2⟩ : ∃ g2, g2 = wr.heap.size := ⟨_, rfl⟩
        obtain ⟨W2, hW2⟩ : ∃ W2, W2 = (wr).alloc (.cells #[.int .i64 x.k, .int .i64 x.vm, .int .i64 x.sp, .bool x.al, .int .i64 x.pg, .int .i64 x.lv, .int .i64 x.fr, .int .i64 x.mi, .bool x.t.r, .bool x.t.w, .bool x.t.x, .bool x.t.a, .bool x.t.n, .int .i64 x.t.s] 36) := ⟨_, rfl⟩
        have hs2 : g2 + 1 ≤ W2.heap.size := by rw [hW2, hg2]; simp
        rw [← hW2] at Q2 V2 E2 B2 C2_ ⊢
        have hb2 : wr.heap.size ≤ g2 := by omega
        rw [← hg2] at V2 ⊢
        clear hg2
        clear hW2 Qr Er Br Cr
        have Vc0 := V2.out.get 0 (.int .i64 x.k) rfl
        have Vc1 := V2.out.get 1 (.int .i64 x.vm) rfl
        have Vc2 := V2.out.get 2 (.int .i64 x.sp) rfl
        have Vc3 := V2.out.get 3 (.bool x.al) rfl
        have Vc4 := V2.out.get 4 (.int .i64 x.pg) rfl
        have Vc5 := V2.out.get 5 (.int .i64 x.lv) rfl
        have Vc6 := V2.out.get 6 (.int .i64 x.fr) rfl
        have Vc7 := V2.out.get 7 (.int .i64 x.mi) rfl
        have Vc8 := V2.out.get 8 (.bool x.t.r) rfl
        have Vc9 := V2.out.get 9 (.bool x.t.w) rfl
        have Vc10 := V2.out.get 10 (.bool x.t.x) rfl
        have Vc11 := V2.out.get 11 (.bool x.t.a) rfl
        have Vc12 := V2.out.get 12 (.bool x.t.n) rfl
        have Vc13 := V2.out.get 13 (.int .i64 x.t.s) rfl
        go_wp2_with fail
        refine (HPE.out _ Q2.out B2.out).mono ?_
        rintro e w3 ⟨rfl, hb3⟩
        have hz3 := hb3.size
        have Q3 := Lib.hid (Q2.out.below hb3)
        have V3 := Lib.hid (V2.out.below hb3)
        have E3 := Lib.hid (E2.out.below hb3)
        have B3 := Lib.hid ((B2.out.trans (hb3.mono (show base ≤ _ from (by first | omega | (simp; done) | (simp; omega))))))
        have C3_ := Lib.hid ((bel_trans C2_.out hb3))
        skip
        have hs3 : g2 + 1 ≤ w3.heap.size := by omega
        clear Vc0 Vc1 Vc2 Vc3 Vc4 Vc5 Vc6 Vc7 Vc8 Vc9 Vc10 Vc11 Vc12 Vc13
        clear Q2 V2 E2 B2 C2_ hs2 hb3 hz3
        cases o1
        · have HC2 := Lib.hid (show (C.set a x).take (a + 1) = keptE pp (E.take (k + 1)) ∧ (C.set a x).drop (k + 1) = E.drop (k + 1) from kept_set HX.out HO1.out.symm HC.out.1 HC.out.2 (by have := hCl.out; omega) ha)
          go_upto_region 9 with fail
          have Vc0 := V3.out.get 0 (.int .i64 x.k) rfl
          have Vc1 := V3.out.get 1 (.int .i64 x.vm) rfl
          have Vc2 := V3.out.get 2 (.int .i64 x.sp) rfl
          have Vc3 := V3.out.get 3 (.bool x.al) rfl
          have Vc4 := V3.out.get 4 (.int .i64 x.pg) rfl
          have Vc5 := V3.out.get 5 (.int .i64 x.lv) rfl
          have Vc6 := V3.out.get 6 (.int .i64 x.fr) rfl
          have Vc7 := V3.out.get 7 (.int .i64 x.mi) rfl
          have Vc8 := V3.out.get 8 (.bool x.t.r) rfl
          have Vc9 := V3.out.get 9 (.bool x.t.w) rfl
          have Vc10 := V3.out.get 10 (.bool x.t.x) rfl
          have Vc11 := V3.out.get 11 (.bool x.t.a) rfl
          have Vc12 := V3.out.get 12 (.bool x.t.n) rfl
          have Vc13 := V3.out.get 13 (.int .i64 x.t.s) rfl
          have HTH := Lib.hid (own_thereE E3.out (show a < l by omega))
          have HI1 := Lib.hid spX_info
          have HI2 := Lib.hid (show (#[.int .i64 x.k, .int .i64 x.vm, .int .i64 x.sp, .bool x.al, .int .i64 x.pg, .int .i64 x.lv, .int .i64 x.fr, .int .i64 x.mi, .bool x.t.r, .bool x.t.w, .bool x.t.x, .bool x.t.a, .bool x.t.n, .int .i64 x.t.s] : Array Value).all (·.oneCell') = true from entC_one x)
          obtain ⟨W9, hW9⟩ : ∃ W9, W9 = w3.setCells g (a * 14) #[.int .i64 x.k, .int .i64 x.vm, .int .i64 x.sp, .bool x.al, .int .i64 x.pg, .int .i64 x.lv, .int .i64 x.fr, .int .i64 x.mi, .bool x.t.r, .bool x.t.w, .bool x.t.x, .bool x.t.a, .bool x.t.n, .int .i64 x.t.s].toList := ⟨_, rfl⟩
          have HO9 := Lib.hid (own_setE E3.out x (show a < l by omega) hW9)
          have HB9 := Lib.hid (below_setE B3.out x hbg hW9)
          have HQ9 := Lib.hid (box_setE Q3.out x hqg hW9)
          have HG9 := Lib.hid (grown_setE (Gr.out.trans (grown_below C3_.out)) x hW9)
          go_wp2_with ((with_reducible refine atStore 36 ?_); refine wpList_store_mid rfl 36 _ _ rfl g (a * 14) #[.int .i64 x.k, .int .i64 x.vm, .int .i64 x.sp, .bool x.al, .int .i64 x.pg, .int .i64 x.lv, .int .i64 x.fr, .int .i64 x.mi, .bool x.t.r, .bool x.t.w, .bool x.t.x, .bool x.t.a, .bool x.t.n, .int .i64 x.t.s] rfl rfl HTH.out HI1.out HI2.out ?_; rw [← hW9]; clear hW9)
          go_roundw
          case rel => exact ⟨k + 1, a + 1, C.set a x, by omega, by omega, by go_num, by go_num, HO9, HC2, HQ9, HB9, HG9⟩
          case measure => simp [intOf]; omega
        have HC2 := Lib.hid (show C.take a = keptE pp (E.take (k + 1)) ∧ C.drop (k + 1) = E.drop (k + 1) from ⟨HC.out.1.trans (kept_no HX.out HO1.out.symm).symm, drop_next HC.out.2⟩)
        go_wp2
        go_roundw
        case rel => exact ⟨k + 1, a, C, by omega, by omega, rfl, by go_num, E3.out, HC2, Q3.out, B3.out, Gr.out.trans (grown_below C3_.out)⟩
        case measure => simp [intOf]; omega
      · obtain rfl : k = l := by omega
        have e1 : E.take k = E := List.take_of_length_le (by have := HN.out; omega)
        have HCE := Lib.hid (show C.take a = keptE pp E from by have := HC.out.1; rwa [e1] at this)
        clear e1
        have hlc := HLC.out
        obtain ⟨zs, hzl, hcl0⟩ := clear_rowE (d := c - a) (Er.out.cutTo a (by omega)) (show 0 < k - a by omega) (show a + (k - a) ≤ c by omega)
        have O2 := Lib.hid ((Er.out.cutTo a (by omega)).past zs (by show a * 14 + zs.length ≤ c * 14; omega))
        have G2 := Lib.hid (Gr.out.trans (grownBy_setCells (g := g) zs (a * 14)))
        change Hid (OwnR KE (wr.setCells g (a * 14) zs) base _ _) at O2
        obtain ⟨W2, hW2⟩ : ∃ W2, W2 = wr.setCells g (a * 14) zs := ⟨_, rfl⟩
        rw [← hW2] at O2 G2 hcl0
        clear hW2
        have i5 : ¬ c = a := by omega
        have i6 : (0 : Int) ≤ (a : Int) := by omega
        have i7 : (a : Int) ≤ (k : Int) := by omega
        have i8 : (a : Int) ≤ (c : Int) := by omega
        have i9 : (k : Int) ≤ (c : Int) := by omega
        go_wp2
        go_ret
        exact ⟨a, rfl, by rw [← HCE.out, List.length_take, ← hCl.out]; omega, HCE.out ▸ O2.out, G2.out⟩
end Go.Proofs.Ytjohnpbfdpmajaa
