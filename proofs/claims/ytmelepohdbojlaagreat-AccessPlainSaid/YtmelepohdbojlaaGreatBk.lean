/- The reference's Fill: contract. The reference's Drop: contract. -/
import Derived.Test.YtmelepohdbojlaaGreatZo
import Derived.Test.YtmelepohdbojlaaGreatRg
import Derived.Test.YtmelepohdbojlaaGreatSq
set_option linter.all false
namespace Go.Proofs.YtmelepohdbojlaaGreat
section
open Go.ChangeShapes Go.WideShapes Go.ChangeAt Go.RowKit Go.Deep
theorem OwnR.grownO {Q Q2 : Type} {K : RowK Q} {K2 : RowK Q2} {w w' : World} {base base2 : Nat} {v v2 : Value} {L : List Q} {L2 : List Q2} (h : OwnR K w base v L) (h2 : OwnR K2 w base2 v2 L2) (ht : K.t ≠ K2.t) (hg : w.grownBy w' v2.ownBlock) : OwnR K w' base v L := by
 refine ⟨h.1, ?_⟩
 rcases h.2 with hn | ⟨g, cap, cur, rfl, hbg, hgg, rest⟩
 ·exact .inl hn
 ·refine .inr ⟨g, cap, cur, rfl, hbg, (hg.block g (Array.getElem?_eq_some_iff.1 hgg).1 ?_).trans hgg, rest⟩
  intro he
  rcases h2.2 with hn2 | ⟨g2, cap2, cur2, rfl, _, hgg2, _⟩
  ·rw [hn2.1] at he; simp [Value.ownBlock] at he
  ·have he2 : g = g2 := by simpa [Value.ownBlock] using he
   subst he2
   have := hgg.symm.trans hgg2
   simp at this
   exact ht this.2
theorem wpList_pushRl {Q : Type} {K : RowK Q} {w : World} {ops : Array Oper} {rest : List Oper} {o : Oper} {a : Act} {QQ : Exit → Act → World → Prop} (hgd : o.guard = none) (s x : Operand)
  (ho : o.op = .call { callee := .builtin .append, args := #[s, x], argTypes := #[K.ts, K.ts] })
  (base n : Nat) (v : Value) (L : List Q) (hs : a.eval s = v) (hown : OwnR K w base v L) (hn : n = L.length)
  (b c : Nat) (y : Q) (hx : a.eval x = .slice (some ⟨b, 0, none⟩) 1 c) (hy : ∀ i, i < K.N → w.cell? ⟨b, i, none⟩ = (K.V y)[i]?) (hk : n ≤ 100000) (hbase : base ≤ w.heap.size)
  (h : ∀ f' c' w', OwnR K w' base (.slice f' (n + 1) c') (L ++ [y]) → w.grownBy w' v.ownBlock → wpList Tryz.prog ops QQ rest (a.put o.dst (.slice f' (n + 1) c')) w') : wpList Tryz.prog ops QQ (o :: rest) a w := by
 subst hn
 exact wpList_pushR hgd s x ho base v L hs hown b c y hx hy hk hbase h
set_option maxRecDepth 100000 in
set_option maxHeartbeats 3200000 in
theorem fill9_any (f g : Option Addr) (l c m d : Nat) (E : List Ety) (D : List Inv) (e : Ety) (w : World) (hE : RowsAt KE w f E) (hl : l = E.length) (hD : RowsAt KI w g D) (hm : m = D.length) (hls : l ≤ 90000) (hms : m ≤ 90000) :
  Calls Tryz.prog 65 #[.agg #[.slice f l c, .slice g m d], entV e] w fun r w' => ∃ f' l' c' g' d', r = .returned (.agg #[.slice f' l' c', .slice g' m d']) ∧ l' = (fill9 E e).length ∧ OwnR KE w' w.heap.size (.slice f' l' c') (fill9 E e) ∧ OwnR KI w' w.heap.size (.slice g' m d') D ∧ Below w.heap.size w w' := by
 have HC := Lib.hid (fun W (hB : Below w.heap.size w W) => copyT_any f g l c m d E D W (hE.below hB) hl (hD.below hB) hm (by omega) (by omega))
 have HI := Lib.hid (fun W (hB : Below w.heap.size w W) => in9_any f l c E e W (hE.below hB) hl (by omega))
 have HN := Lib.hid hl
 unfold fill9
 rw [← hl]
 unfold EndT at HC
 rw [← hl, ← hm] at HC
 clear hE hl hD hm
 generalize inE E e = n1 at *
 unfold entV entC at HI ⊢
 obtain ⟨F, hF⟩ : ∃ F, F = (if n1 < 0 ∧ l < 8 then E ++ [e] else E) := ⟨_, rfl⟩
 rw [← hF]
 have HF0 := Lib.hid hF
 clear hF
 have htw : w.heap.size ≤ w.heap.size := Nat.le_refl _
 have B0 := Lib.hid (Below.refl w.heap.size w)
 go_enter Tryz.func65, Tryz.ntmps65
 go_upto_region 1 with fail
 have A1 := Lib.hid ((((BoxAt.newAt (w) #[.slice f l c, .slice g m d] 35 (w.heap.size) (by first | omega | (simp; done) | (simp; omega))).alloc (.cells #[.int .i64 e.k, .int .i64 e.vm, .int .i64 e.sp, .bool e.al, .int .i64 e.pg, .int .i64 e.lv, .int .i64 e.fr, .int .i64 e.mi, .bool e.t.r, .bool e.t.w, .bool e.t.x, .bool e.t.a, .bool e.t.n, .int .i64 e.t.s] 89)).alloc (.cells #[.slice none 0 0, .slice none 0 0] 35)))
 have X1 := Lib.hid (((BoxAt.newAt ((w).alloc (.cells #[.slice f l c, .slice g m d] 35)) #[.int .i64 e.k, .int .i64 e.vm, .int .i64 e.sp, .bool e.al, .int .i64 e.pg, .int .i64 e.lv, .int .i64 e.fr, .int .i64 e.mi, .bool e.t.r, .bool e.t.w, .bool e.t.x, .bool e.t.a, .bool e.t.n, .int .i64 e.t.s] 89 (w.heap.size + 1) (by first | omega | (simp; done) | (simp; omega))).alloc (.cells #[.slice none 0 0, .slice none 0 0] 35)))
 have R1 := Lib.hid ((BoxAt.newAt (((w).alloc (.cells #[.slice f l c, .slice g m d] 35)).alloc (.cells #[.int .i64 e.k, .int .i64 e.vm, .int .i64 e.sp, .bool e.al, .int .i64 e.pg, .int .i64 e.lv, .int .i64 e.fr, .int .i64 e.mi, .bool e.t.r, .bool e.t.w, .bool e.t.x, .bool e.t.a, .bool e.t.n, .int .i64 e.t.s] 89)) #[.slice none 0 0, .slice none 0 0] 35 (w.heap.size + 1 + 1) (by first | omega | (simp; done) | (simp; omega))))
 have B1 := Lib.hid ((bel_alloc (bel_alloc (bel_alloc B0.out (.cells #[.slice f l c, .slice g m d] 35)) (.cells #[.int .i64 e.k, .int .i64 e.vm, .int .i64 e.sp, .bool e.al, .int .i64 e.pg, .int .i64 e.lv, .int .i64 e.fr, .int .i64 e.mi, .bool e.t.r, .bool e.t.w, .bool e.t.x, .bool e.t.a, .bool e.t.n, .int .i64 e.t.s] 89)) (.cells #[.slice none 0 0, .slice none 0 0] 35)))
 obtain ⟨g1, hg1⟩ : ∃ g1, g1 = w.heap.size := ⟨_, rfl⟩
 obtain ⟨W1, hW1⟩ : ∃ W1, W1 = (((w).alloc (.cells #[.slice f l c, .slice g m d] 35)).alloc (.cells #[.int .i64 e.k, .int .i64 e.vm, .int .i64 e.sp, .bool e.al, .int .i64 e.pg, .int .i64 e.lv, .int .i64 e.fr, .int .i64 e.mi, .bool e.t.r, .bool e.t.w, .bool e.t.x, .bool e.t.a, .bool e.t.n, .int .i64 e.t.s] 89)).alloc (.cells #[.slice none 0 0, .slice none 0 0] 35) := ⟨_, rfl⟩
 have hs1 : g1 + 1 + 1 + 1 ≤ W1.heap.size := by rw [hW1, hg1]; simp
 rw [← hW1] at A1 X1 R1 B1 ⊢
 have hb1 : w.heap.size ≤ g1 := by omega
 rw [← hg1] at A1 X1 R1 ⊢
 clear hg1
 clear hW1 B0
 have Ac0 := A1.out.get 0 (.slice f l c) rfl
 have Ac1 := A1.out.get 1 (.slice g m d) rfl
 go_wp2_with fail
 refine (HC.out _ B1.out).mono ?_
 rintro e w2 ⟨f2, c2, g2, d2, rfl, hE2, hD2, hb2⟩
 have OE2 := Lib.hid (OwnR.mono hE2 (base' := w.heap.size) (by first | omega | (simp; done) | (simp; omega)))
 have OD2 := Lib.hid (OwnR.mono hD2 (base' := w.heap.size) (by first | omega | (simp; done) | (simp; omega)))
 clear hE2 hD2
 have hz2 := hb2.size
 have A2 := Lib.hid (A1.out.below hb2)
 have X2 := Lib.hid (X1.out.below hb2)
 have R2 := Lib.hid (R1.out.below hb2)
 have B2 := Lib.hid (bel_trans B1.out hb2)
 skip
 have hs2 : g1 + 1 + 1 + 1 ≤ w2.heap.size := by omega
 clear Ac0 Ac1
 clear A1 X1 R1 B1 hs1 hb2 hz2
 go_upto_region 2 with fail
 have A3 := Lib.hid ((A2.out.alloc (.cells #[.slice f2 l c2, .slice g2 m d2] 35)))
 have X3 := Lib.hid ((X2.out.alloc (.cells #[.slice f2 l c2, .slice g2 m d2] 35)))
 have R3 := Lib.hid ((R2.out.alloc (.cells #[.slice f2 l c2, .slice g2 m d2] 35)))
 have T3 := Lib.hid ((BoxAt.newAt (w2) #[.slice f2 l c2, .slice g2 m d2] 35 (w2.heap.size) (by first | omega | (simp; done) | (simp; omega))))
 have E3 := Lib.hid ((OE2.out.alloc (.cells #[.slice f2 l c2, .slice g2 m d2] 35)))
 have D3 := Lib.hid ((OD2.out.alloc (.cells #[.slice f2 l c2, .slice g2 m d2] 35)))
 have B3 := Lib.hid ((bel_alloc B2.out (.cells #[.slice f2 l c2, .slice g2 m d2] 35)))
 obtain ⟨g3, hg3⟩ : ∃ g3, g3 = w2.heap.size := ⟨_, rfl⟩
 obtain ⟨W3, hW3⟩ : ∃ W3, W3 = (w2).alloc (.cells #[.slice f2 l c2, .slice g2 m d2] 35) := ⟨_, rfl⟩
 have hs3 : g3 + 1 ≤ W3.heap.size := by rw [hW3, hg3]; simp
 rw [← hW3] at A3 X3 R3 T3 E3 D3 B3 ⊢
 have hb3 : g1 + 1 + 1 + 1 ≤ g3 := by omega
 rw [← hg3] at T3 ⊢
 clear hg3
 clear hW3 A2 X2 R2 OE2 OD2 B2 hs2
 have Ac0 := A3.out.get 0 (.slice f l c) rfl
 have Xc0 := X3.out.get 0 (.int .i64 e.k) rfl
 have Xc1 := X3.out.get 1 (.int .i64 e.vm) rfl
 have Xc2 := X3.out.get 2 (.int .i64 e.sp) rfl
 have Xc3 := X3.out.get 3 (.bool e.al) rfl
 have Xc4 := X3.out.get 4 (.int .i64 e.pg) rfl
 have Xc5 := X3.out.get 5 (.int .i64 e.lv) rfl
 have Xc6 := X3.out.get 6 (.int .i64 e.fr) rfl
 have Xc7 := X3.out.get 7 (.int .i64 e.mi) rfl
 have Xc8 := X3.out.get 8 (.bool e.t.r) rfl
 have Xc9 := X3.out.get 9 (.bool e.t.w) rfl
 have Xc10 := X3.out.get 10 (.bool e.t.x) rfl
 have Xc11 := X3.out.get 11 (.bool e.t.a) rfl
 have Xc12 := X3.out.get 12 (.bool e.t.n) rfl
 have Xc13 := X3.out.get 13 (.int .i64 e.t.s) rfl
 go_wp2_with fail
 refine (HI.out _ B3.out).mono ?_
 rintro e w4 ⟨rfl, hb4⟩
 have hz4 := hb4.size
 have A4 := Lib.hid (A3.out.below hb4)
 have X4 := Lib.hid (X3.out.below hb4)
 have R4 := Lib.hid (R3.out.below hb4)
 have T4 := Lib.hid (T3.out.below hb4)
 have E4 := Lib.hid (E3.out.below hb4)
 have D4 := Lib.hid (D3.out.below hb4)
 have B4 := Lib.hid (bel_trans B3.out hb4)
 skip
 have hs4 : g3 + 1 ≤ w4.heap.size := by omega
 clear Ac0 Xc0 Xc1 Xc2 Xc3 Xc4 Xc5 Xc6 Xc7 Xc8 Xc9 Xc10 Xc11 Xc12 Xc13
 clear A3 X3 R3 T3 E3 D3 B3 hs3 hb4 hz4
 by_cases h1 : n1 < 0
 rotate_left
 ·have dn1 : decide (n1 < 0) = false := decide_eq_false h1
  have HF := Lib.hid (show E = F from by rw [HF0.out, if_neg (fun h => h1 h.1)])
  clear h1
  have Tc0 := T4.out.get 0 (.slice f2 l c2) rfl
  have Tc1 := T4.out.get 1 (.slice g2 m d2) rfl
  go_wp2_with (refine wpList_storeB rfl 35 _ _ rfl (g1 + 1 + 1) #[.slice f2 l c2, .slice g2 m d2] _ 35 rfl rfl (by kernel_rfl) (by rfl) (by simp [Value.oneCell']) R4.out ?_)
  have RR := (R4.out.put (cs' := #[.slice f2 l c2, .slice g2 m d2]))
  refine bodyPost_ret (v := .agg #[.slice f2 l c2, .slice g2 m d2]) (by simp [results, Tryz.results65, go_sem, RR.get 0 (.slice f2 l c2) rfl, RR.get 1 (.slice g2 m d2) rfl]) rfl ?_
  rw [← HF.out]
  exact ⟨f2, l, c2, g2, d2, rfl, HN.out, (E4.out.rowN (cs := #[.slice f2 l c2, .slice g2 m d2]) (E4.out.ne_box R4.out (by decide))), (D4.out.rowN (cs := #[.slice f2 l c2, .slice g2 m d2]) (D4.out.ne_box R4.out (by decide))), (Below.rowB (g := g1 + 1 + 1) B4.out (cs := #[.slice f2 l c2, .slice g2 m d2]) (show w.heap.size ≤ g1 + 1 + 1 by omega))⟩
 have dn1 : decide (n1 < 0) = true := decide_eq_true h1
 have Ac0 := A4.out.get 0 (.slice f l c) rfl
 by_cases h2 : l < 8
 rotate_left
 ·have dl8 : decide ((l : Int) < 8) = false := decide_eq_false (by omega)
  have HF := Lib.hid (show E = F from by rw [HF0.out, if_neg (fun h => h2 h.2)])
  clear h1
  have Tc0 := T4.out.get 0 (.slice f2 l c2) rfl
  have Tc1 := T4.out.get 1 (.slice g2 m d2) rfl
  go_wp2_with (refine wpList_storeB rfl 35 _ _ rfl (g1 + 1 + 1) #[.slice f2 l c2, .slice g2 m d2] _ 35 rfl rfl (by kernel_rfl) (by rfl) (by simp [Value.oneCell']) R4.out ?_)
  have RR := (R4.out.put (cs' := #[.slice f2 l c2, .slice g2 m d2]))
  refine bodyPost_ret (v := .agg #[.slice f2 l c2, .slice g2 m d2]) (by simp [results, Tryz.results65, go_sem, RR.get 0 (.slice f2 l c2) rfl, RR.get 1 (.slice g2 m d2) rfl]) rfl ?_
  rw [← HF.out]
  exact ⟨f2, l, c2, g2, d2, rfl, HN.out, (E4.out.rowN (cs := #[.slice f2 l c2, .slice g2 m d2]) (E4.out.ne_box R4.out (by decide))), (D4.out.rowN (cs := #[.slice f2 l c2, .slice g2 m d2]) (D4.out.ne_box R4.out (by decide))), (Below.rowB (g := g1 + 1 + 1) B4.out (cs := #[.slice f2 l c2, .slice g2 m d2]) (show w.heap.size ≤ g1 + 1 + 1 by omega))⟩
 have dl8 : decide ((l : Int) < 8) = true := decide_eq_true (by omega)
 have HF := Lib.hid (show E ++ [e] = F from by rw [HF0.out, if_pos ⟨h1, h2⟩])
 clear h1
 have Tc0 := T4.out.get 0 (.slice f2 l c2) rfl
 have Xc0 := X4.out.get 0 (.int .i64 e.k) rfl
 have Xc1 := X4.out.get 1 (.int .i64 e.vm) rfl
 have Xc2 := X4.out.get 2 (.int .i64 e.sp) rfl
 have Xc3 := X4.out.get 3 (.bool e.al) rfl
 have Xc4 := X4.out.get 4 (.int .i64 e.pg) rfl
 have Xc5 := X4.out.get 5 (.int .i64 e.lv) rfl
 have Xc6 := X4.out.get 6 (.int .i64 e.fr) rfl
 have Xc7 := X4.out.get 7 (.int .i64 e.mi) rfl
 have Xc8 := X4.out.get 8 (.bool e.t.r) rfl
 have Xc9 := X4.out.get 9 (.bool e.t.w) rfl
 have Xc10 := X4.out.get 10 (.bool e.t.x) rfl
 have Xc11 := X4.out.get 11 (.bool e.t.a) rfl
 have Xc12 := X4.out.get 12 (.bool e.t.n) rfl
 have Xc13 := X4.out.get 13 (.int .i64 e.t.s) rfl
 go_upto_region 4 with (at_builtin; refine wpList_pushRl (K := KE) rfl _ _ rfl w.heap.size l _ E rfl (E4.out.alloc (.cells #[.int .i64 e.k, .int .i64 e.vm, .int .i64 e.sp, .bool e.al, .int .i64 e.pg, .int .i64 e.lv, .int .i64 e.fr, .int .i64 e.mi, .bool e.t.r, .bool e.t.w, .bool e.t.x, .bool e.t.a, .bool e.t.n, .int .i64 e.t.s] 89)) HN.out (w4.heap.size) 1 e rfl (fun i _ => ((BoxAt.newAt (w4) #[.int .i64 e.k, .int .i64 e.vm, .int .i64 e.sp, .bool e.al, .int .i64 e.pg, .int .i64 e.lv, .int .i64 e.fr, .int .i64 e.mi, .bool e.t.r, .bool e.t.w, .bool e.t.x, .bool e.t.a, .bool e.t.n, .int .i64 e.t.s] 89 (w4.heap.size) (by first | omega | (simp; done) | (simp; omega)))).cell i) (by omega) (by first | omega | (simp; omega)) ?_; intro f5a c5a w5 hO5 hg5; clear X4; clear Ac0 Tc0 Xc0 Xc1 Xc2 Xc3 Xc4 Xc5 Xc6 Xc7 Xc8 Xc9 Xc10 Xc11 Xc12 Xc13; have hz5 := hg5.size; try simp at hz5; have A5 := Lib.hid ((A4.out.alloc (.cells #[.int .i64 e.k, .int .i64 e.vm, .int .i64 e.sp, .bool e.al, .int .i64 e.pg, .int .i64 e.lv, .int .i64 e.fr, .int .i64 e.mi, .bool e.t.r, .bool e.t.w, .bool e.t.x, .bool e.t.a, .bool e.t.n, .int .i64 e.t.s] 89)).grown hg5 ((E4.out.alloc (.cells #[.int .i64 e.k, .int .i64 e.vm, .int .i64 e.sp, .bool e.al, .int .i64 e.pg, .int .i64 e.lv, .int .i64 e.fr, .int .i64 e.mi, .bool e.t.r, .bool e.t.w, .bool e.t.x, .bool e.t.a, .bool e.t.n, .int .i64 e.t.s] 89)).ne_box (A4.out.alloc (.cells #[.int .i64 e.k, .int .i64 e.vm, .int .i64 e.sp, .bool e.al, .int .i64 e.pg, .int .i64 e.lv, .int .i64 e.fr, .int .i64 e.mi, .bool e.t.r, .bool e.t.w, .bool e.t.x, .bool e.t.a, .bool e.t.n, .int .i64 e.t.s] 89)) (by decide))); have R5 := Lib.hid ((R4.out.alloc (.cells #[.int .i64 e.k, .int .i64 e.vm, .int .i64 e.sp, .bool e.al, .int .i64 e.pg, .int .i64 e.lv, .int .i64 e.fr, .int .i64 e.mi, .bool e.t.r, .bool e.t.w, .bool e.t.x, .bool e.t.a, .bool e.t.n, .int .i64 e.t.s] 89)).grown hg5 ((E4.out.alloc (.cells #[.int .i64 e.k, .int .i64 e.vm, .int .i64 e.sp, .bool e.al, .int .i64 e.pg, .int .i64 e.lv, .int .i64 e.fr, .int .i64 e.mi, .bool e.t.r, .bool e.t.w, .bool e.t.x, .bool e.t.a, .bool e.t.n, .int .i64 e.t.s] 89)).ne_box (R4.out.alloc (.cells #[.int .i64 e.k, .int .i64 e.vm, .int .i64 e.sp, .bool e.al, .int .i64 e.pg, .int .i64 e.lv, .int .i64 e.fr, .int .i64 e.mi, .bool e.t.r, .bool e.t.w, .bool e.t.x, .bool e.t.a, .bool e.t.n, .int .i64 e.t.s] 89)) (by decide))); have T5 := Lib.hid ((T4.out.alloc (.cells #[.int .i64 e.k, .int .i64 e.vm, .int .i64 e.sp, .bool e.al, .int .i64 e.pg, .int .i64 e.lv, .int .i64 e.fr, .int .i64 e.mi, .bool e.t.r, .bool e.t.w, .bool e.t.x, .bool e.t.a, .bool e.t.n, .int .i64 e.t.s] 89)).grown hg5 ((E4.out.alloc (.cells #[.int .i64 e.k, .int .i64 e.vm, .int .i64 e.sp, .bool e.al, .int .i64 e.pg, .int .i64 e.lv, .int .i64 e.fr, .int .i64 e.mi, .bool e.t.r, .bool e.t.w, .bool e.t.x, .bool e.t.a, .bool e.t.n, .int .i64 e.t.s] 89)).ne_box (T4.out.alloc (.cells #[.int .i64 e.k, .int .i64 e.vm, .int .i64 e.sp, .bool e.al, .int .i64 e.pg, .int .i64 e.lv, .int .i64 e.fr, .int .i64 e.mi, .bool e.t.r, .bool e.t.w, .bool e.t.x, .bool e.t.a, .bool e.t.n, .int .i64 e.t.s] 89)) (by decide))); have E5 := Lib.hid (hO5); have D5o := Lib.hid ((D4.out.alloc (.cells #[.int .i64 e.k, .int .i64 e.vm, .int .i64 e.sp, .bool e.al, .int .i64 e.pg, .int .i64 e.lv, .int .i64 e.fr, .int .i64 e.mi, .bool e.t.r, .bool e.t.w, .bool e.t.x, .bool e.t.a, .bool e.t.n, .int .i64 e.t.s] 89)).grownO (E4.out.alloc (.cells #[.int .i64 e.k, .int .i64 e.vm, .int .i64 e.sp, .bool e.al, .int .i64 e.pg, .int .i64 e.lv, .int .i64 e.fr, .int .i64 e.mi, .bool e.t.r, .bool e.t.w, .bool e.t.x, .bool e.t.a, .bool e.t.n, .int .i64 e.t.s] 89)) (by decide) hg5); have B5 := Lib.hid ((bel_alloc B4.out (.cells #[.int .i64 e.k, .int .i64 e.vm, .int .i64 e.sp, .bool e.al, .int .i64 e.pg, .int .i64 e.lv, .int .i64 e.fr, .int .i64 e.mi, .bool e.t.r, .bool e.t.w, .bool e.t.x, .bool e.t.a, .bool e.t.n, .int .i64 e.t.s] 89)).grown hg5 (show w.heap.size ≤ _ by first | omega | (simp; omega)) (fun k hk => Nat.le_trans (show w.heap.size ≤ w.heap.size by omega) ((E4.out.alloc (.cells #[.int .i64 e.k, .int .i64 e.vm, .int .i64 e.sp, .bool e.al, .int .i64 e.pg, .int .i64 e.lv, .int .i64 e.fr, .int .i64 e.mi, .bool e.t.r, .bool e.t.w, .bool e.t.x, .bool e.t.a, .bool e.t.n, .int .i64 e.t.s] 89)).blk k hk))); have hs5 : g3 + 1 ≤ w5.heap.size := (by omega); clear A4 R4 T4 E4 D4 B4 hg5 hO5 hz5 hs4; have Tc0 := T5.out.get 0 (.slice f2 l c2) rfl; have Tz0 := T5.out.free 0)
 clear Tc0 Tz0
 have A6 := Lib.hid ((A5.out.other ⟨g3, 0, none⟩ (.slice f5a (l + 1) c5a) (show g1 ≠ g3 by omega)))
 have R6 := Lib.hid ((R5.out.other ⟨g3, 0, none⟩ (.slice f5a (l + 1) c5a) (show g1 + 1 + 1 ≠ g3 by omega)))
 have T6 := Lib.hid ((T5.out.set 0 (.slice f5a (l + 1) c5a) #[.slice f5a (l + 1) c5a, .slice g2 m d2] rfl))
 have E6 := Lib.hid ((E5.out.otherN ⟨g3, 0, none⟩ (.slice f5a (l + 1) c5a) (E5.out.ne_box T5.out (by decide))))
 have D6 := Lib.hid ((D5o.out.otherN ⟨g3, 0, none⟩ (.slice f5a (l + 1) c5a) (D5o.out.ne_box T5.out (by decide))))
 have B6 := Lib.hid ((Below.setCell B5.out (p := ⟨g3, 0, none⟩) (show w.heap.size ≤ g3 by omega) (.slice f5a (l + 1) c5a)))
 obtain ⟨W6, hW6⟩ : ∃ W6, W6 = (w5).setCell ⟨g3, 0, none⟩ (.slice f5a (l + 1) c5a) := ⟨_, rfl⟩
 have hs6 : g3 + 1 ≤ W6.heap.size := by rw [hW6]; first | (simp [World.setCell]; omega) | (simp [World.setCell, World.setRow]; omega) | exact hs5
 rw [← hW6] at A6 R6 T6 E6 D6 B6 ⊢
 clear hW6 A5 R5 T5 E5 D5o B5 hs5
 have Tc0 := T6.out.get 0 (.slice f5a (l + 1) c5a) rfl
 have Tc1 := T6.out.get 1 (.slice g2 m d2) rfl
 go_wp2_with (refine wpList_storeB rfl 35 _ _ rfl (g1 + 1 + 1) #[.slice f5a (l + 1) c5a, .slice g2 m d2] _ 35 rfl rfl (by kernel_rfl) (by rfl) (by simp [Value.oneCell']) R6.out ?_)
 have RR := (R6.out.put (cs' := #[.slice f5a (l + 1) c5a, .slice g2 m d2]))
 refine bodyPost_ret (v := .agg #[.slice f5a (l + 1) c5a, .slice g2 m d2]) (by simp [results, Tryz.results65, go_sem, RR.get 0 (.slice f5a (l + 1) c5a) rfl, RR.get 1 (.slice g2 m d2) rfl]) rfl ?_
 rw [← HF.out]
 exact ⟨f5a, l + 1, c5a, g2, d2, rfl, by simp; exact HN.out, (E6.out.rowN (cs := #[.slice f5a (l + 1) c5a, .slice g2 m d2]) (E6.out.ne_box R6.out (by decide))), (D6.out.rowN (cs := #[.slice f5a (l + 1) c5a, .slice g2 m d2]) (D6.out.ne_box R6.out (by decide))), (Below.rowB (g := g1 + 1 + 1) B6.out (cs := #[.slice f5a (l + 1) c5a, .slice g2 m d2]) (show w.heap.size ≤ g1 + 1 + 1 by omega))⟩
end
section
open Go.ChangeShapes Go.WideShapes Go.ChangeAt Go.RowKit Go.Deep
theorem RowsAt.take {Q : Type} {K : RowK Q} {w : World} {f : Option Addr} {L : List Q} (h : RowsAt K w f L) (i : Nat) : RowsAt K w f (L.take i) := by
 intro j q hj
 refine h j q ?_
 rw [List.getElem?_take] at hj
 split at hj
 ·exact hj
 ·cases hj
theorem RowsAt.from' {Q : Type} {K : RowK Q} {w : World} {b o : Nat} {L : List Q} (h : RowsAt K w (some ⟨b, o, none⟩) L) (i : Nat) : RowsAt K w (some ⟨b, o + i * K.N, none⟩) (L.drop i) := by
 intro j q hj
 rw [List.getElem?_drop] at hj
 obtain ⟨b', o', he, hr⟩ := h (i + j) q hj
 simp only [Option.some.injEq, Addr.mk.injEq, and_true] at he
 obtain ⟨rfl, rfl⟩ := he
 refine ⟨b, o + i * K.N, rfl, ?_⟩
 rw [Nat.add_assoc, ← Nat.add_mul]
 exact hr
theorem RowsAt.cut {Q : Type} {K : RowK Q} {w : World} {b o l c : Nat} {L : List Q} (h : RowsAt K w (some ⟨b, o, none⟩) L) (hl : l = L.length) (hc : l ≤ c) (i : Nat) (hi : i ≤ l) : RowsAt K w (if c = i then some ⟨b, o, none⟩ else some ⟨b, o + i * K.N, none⟩) (L.drop i) := by
 split
 ·rw [List.drop_eq_nil_of_le (by omega)]
  exact RowsAt.nil _ _
 ·exact h.from' i
theorem step_rowRl {Q : Type} {K : RowK Q} {w : World} {ops : Array Oper} {o : Oper} {a : Act} {KK : Act → World → Prop} {QQ : Exit → Act → World → Prop} {E : Prop} (hgd : o.guard = none) (s x : Operand)
  (ho : o.op = .call { callee := .builtin .append, args := #[s, x], argTypes := #[K.ts, K.ts] })
  (base n m : Nat) (v : Value) (L M : List Q) (hs : a.eval s = v) (hown : OwnR K w base v L) (hn : n = L.length)
  (f : Option Addr) (c : Nat) (hx : a.eval x = .slice f m c) (hm : m = M.length) (hM : RowsAt K w f M) (hf : f = none → c = 0) (hk : n + m ≤ 100000) (hbase : base ≤ w.heap.size)
  (h : ∀ f' c' w', OwnR K w' base (.slice f' (n + m) c') (L ++ M) → w.grownBy w' v.ownBlock → KK (a.put o.dst (.slice f' (n + m) c')) w') : if Region.wanted o (yielded ops a.tmps) = true then Oper.wp Tryz.prog o a w KK QQ else E := by
 subst hn hm
 exact step_rowR hgd s x ho base v L M hs hown f M.length c hx rfl hM hf hk hbase (fun f' c' w' h1 h2 _ => h f' c' w' h1 h2)
set_option maxRecDepth 100000 in
set_option maxHeartbeats 3200000 in
theorem drop9_any (b o : Nat) (g : Option Addr) (l c m d i : Nat) (E : List Ety) (D : List Inv) (w : World) (hE : RowsAt KE w (some ⟨b, o, none⟩) E) (hl : l = E.length) (hD : RowsAt KI w g D) (hm : m = D.length) (hls : l ≤ 90000) (hms : m ≤ 90000) (hi : i < l) (hlc : l ≤ c) (hc : c ≤ 9223372036854775807) (hb : b < w.heap.size) :
  Calls Tryz.prog 35 #[.agg #[.slice (some ⟨b, o, none⟩) l c, .slice g m d], .int .i64 i] w fun r w' => ∃ f' l' c' g' d', r = .returned (.agg #[.slice f' l' c', .slice g' m d']) ∧ l' = (drop9 E i).length ∧ OwnR KE w' w.heap.size (.slice f' l' c') (drop9 E i) ∧ OwnR KI w' w.heap.size (.slice g' m d') D ∧ Below w.heap.size w w' := by
 have HC := Lib.hid (fun W (hB : Below w.heap.size w W) => copyT_any (some ⟨b, o, none⟩) g l c m d E D W (hE.below hB) hl (hD.below hB) hm (by omega) (by omega))
 have HT := Lib.hid (show i = (E.take i).length by rw [List.length_take]; omega)
 have HE := Lib.hid (fun W (hB : Below w.heap.size w W) => copyE_any (some ⟨b, o, none⟩) i c (E.take i) W ((hE.below hB).take i) HT.out (by omega))
 have HM := Lib.hid (show l - (i + 1) = (E.drop (i + 1)).length by rw [List.length_drop]; omega)
 have HR := Lib.hid (fun W (hB : Below w.heap.size w W) => (hE.below hB).cut hl hlc (i + 1) (by omega))
 have HF0 := Lib.hid (show ((if c = i + 1 then some ⟨b, o, none⟩ else some ⟨b, o + (i + 1) * 14, none⟩) : Option Addr) = none → c - (i + 1) = 0 by split <;> (intro h; cases h))
 have HLN := Lib.hid (show i + (l - (i + 1)) = (E.take i ++ (E.drop (i + 1))).length by rw [List.length_append, ← HT.out, ← HM.out])
 unfold drop9
 obtain ⟨X, hX⟩ : ∃ X, X = E.take i ++ (E.drop (i + 1)) := ⟨_, rfl⟩
 have HLN := Lib.hid (show i + (l - (i + 1)) = X.length by rw [hX]; exact HLN.out)
 rw [← hX]
 have HXX := Lib.hid hX
 clear hX
 unfold EndT at HC
 rw [← hl, ← hm] at HC
 clear hE hl hD hm
 have i1 : (0 : Int) ≤ (i : Int) := by omega
 have i2 : (i : Int) ≤ (c : Int) := by omega
 have i3 : (0 : Int) ≤ (i : Int) + 1 := by omega
 have i4 : (i : Int) + 1 ≤ (l : Int) := by omega
 have hwr : IntKind.i64.wrap ((i : Int) + 1) = (i : Int) + 1 := IntWalk.i64_in _ (by omega)
 have htw : w.heap.size ≤ w.heap.size := Nat.le_refl _
 have B0 := Lib.hid (Below.refl w.heap.size w)
 go_enter Tryz.func35, Tryz.ntmps35
 go_upto_region 1 with fail
 have A1 := Lib.hid (((BoxAt.newAt (w) #[.slice (some ⟨b, o, none⟩) l c, .slice g m d] 35 (w.heap.size) (by first | omega | (simp; done) | (simp; omega))).alloc (.cells #[.slice none 0 0, .slice none 0 0] 35)))
 have R1 := Lib.hid ((BoxAt.newAt ((w).alloc (.cells #[.slice (some ⟨b, o, none⟩) l c, .slice g m d] 35)) #[.slice none 0 0, .slice none 0 0] 35 (w.heap.size + 1) (by first | omega | (simp; done) | (simp; omega))))
 have B1 := Lib.hid ((bel_alloc (bel_alloc B0.out (.cells #[.slice (some ⟨b, o, none⟩) l c, .slice g m d] 35)) (.cells #[.slice none 0 0, .slice none 0 0] 35)))
 obtain ⟨g1, hg1⟩ : ∃ g1, g1 = w.heap.size := ⟨_, rfl⟩
 obtain ⟨W1, hW1⟩ : ∃ W1, W1 = ((w).alloc (.cells #[.slice (some ⟨b, o, none⟩) l c, .slice g m d] 35)).alloc (.cells #[.slice none 0 0, .slice none 0 0] 35) := ⟨_, rfl⟩
 have hs1 : g1 + 1 + 1 ≤ W1.heap.size := by rw [hW1, hg1]; simp
 rw [← hW1] at A1 R1 B1 ⊢
 have hb1 : w.heap.size ≤ g1 := by omega
 rw [← hg1] at A1 R1 ⊢
 clear hg1
 clear hW1 B0
 have Ac0 := A1.out.get 0 (.slice (some ⟨b, o, none⟩) l c) rfl
 have Ac1 := A1.out.get 1 (.slice g m d) rfl
 go_wp2_with fail
 refine (HC.out _ B1.out).mono ?_
 rintro e w2 ⟨f2, c2, g2, d2, rfl, hE2, hD2, hb2⟩
 have OE2 := Lib.hid (OwnR.mono hE2 (base' := w.heap.size) (by first | omega | (simp; done) | (simp; omega)))
 have OD2 := Lib.hid (OwnR.mono hD2 (base' := w.heap.size) (by first | omega | (simp; done) | (simp; omega)))
 clear hE2 hD2
 have hz2 := hb2.size
 have A2 := Lib.hid (A1.out.below hb2)
 have R2 := Lib.hid (R1.out.below hb2)
 have B2 := Lib.hid (bel_trans B1.out hb2)
 skip
 have hs2 : g1 + 1 + 1 ≤ w2.heap.size := by omega
 clear Ac0 Ac1
 clear A1 R1 B1 hs1 hb2 hz2
 go_upto_region 2 with fail
 have A3 := Lib.hid ((A2.out.alloc (.cells #[.slice f2 l c2, .slice g2 m d2] 35)))
 have R3 := Lib.hid ((R2.out.alloc (.cells #[.slice f2 l c2, .slice g2 m d2] 35)))
 have T3 := Lib.hid ((BoxAt.newAt (w2) #[.slice f2 l c2, .slice g2 m d2] 35 (w2.heap.size) (by first | omega | (simp; done) | (simp; omega))))
 have E3 := Lib.hid ((OE2.out.alloc (.cells #[.slice f2 l c2, .slice g2 m d2] 35)))
 have D3 := Lib.hid ((OD2.out.alloc (.cells #[.slice f2 l c2, .slice g2 m d2] 35)))
 have B3 := Lib.hid ((bel_alloc B2.out (.cells #[.slice f2 l c2, .slice g2 m d2] 35)))
 obtain ⟨g3, hg3⟩ : ∃ g3, g3 = w2.heap.size := ⟨_, rfl⟩
 obtain ⟨W3, hW3⟩ : ∃ W3, W3 = (w2).alloc (.cells #[.slice f2 l c2, .slice g2 m d2] 35) := ⟨_, rfl⟩
 have hs3 : g3 + 1 ≤ W3.heap.size := by rw [hW3, hg3]; simp
 rw [← hW3] at A3 R3 T3 E3 D3 B3 ⊢
 have hb3 : g1 + 1 + 1 ≤ g3 := by omega
 rw [← hg3] at T3 ⊢
 clear hg3
 clear hW3 A2 R2 OE2 OD2 B2 hs2
 refine wp_region_held_drew (S := (fun w' => BoxAt w' (g1) #[.slice (some ⟨b, o, none⟩) l c, .slice g m d] 35)) (by kernel_rfl) (A3.out.drew) (fun hS => ?_)
 refine tkR 0 8 (v := .pointer (some ⟨g1, 0, none⟩)) rfl hS (fun _ _ => by kernel_rfl) ?_
 refine tkR 1 9 (v := .slice (some ⟨b, o, none⟩) l c) rfl hS (fun _ h => run_ld1 32 (.tmp 8) g1 0 (by kernel_rfl) (by kernel_rfl) Tryz.underlying32 rfl ((h).get 0 (.slice (some ⟨b, o, none⟩) l c) rfl)) ?_
 refine tkR 2 10 (v := .int .i64 i) rfl hS (fun _ _ => by kernel_rfl) ?_
 try simp only [Act.put, List.setIfInBounds_toArray, List.set_cons_zero, List.set_cons_succ]
 refine tkR 3 11 rfl hS (fun w' _ => by go_simp; try with_reducible rfl) ?_
 simp only [pA, pB, pC]
 refine tkR 5 13 (v := .pointer (some ⟨g1, 0, none⟩)) rfl hS (fun _ _ => by kernel_rfl) ?_
 refine tkR 6 14 (v := .slice (some ⟨b, o, none⟩) l c) rfl hS (fun _ h => run_ld1 32 (.tmp 13) g1 0 (by kernel_rfl) (by kernel_rfl) Tryz.underlying32 rfl ((h).get 0 (.slice (some ⟨b, o, none⟩) l c) rfl)) ?_
 refine tkR 7 15 (v := .int .i64 i) rfl hS (fun _ _ => by kernel_rfl) ?_
 try simp only [Act.put, List.setIfInBounds_toArray, List.set_cons_zero, List.set_cons_succ]
 refine tkR 8 16 rfl hS (fun w' _ => by go_simp; try with_reducible rfl) ?_
 simp only [pA, pB, pC]
 try simp only [Act.put, List.setIfInBounds_toArray, List.set_cons_zero, List.set_cons_succ]
 refine tkR 9 17 rfl hS (fun w' _ => by go_simp; try with_reducible rfl) ?_
 simp only [pA, pB, pC]
 try simp only [Act.put, List.setIfInBounds_toArray, List.set_cons_zero, List.set_cons_succ]
 refine wpAnyH_ready (rs := [4]) (by kernel_rfl) (by simp) ?_
 refine AllReadyH.cons (o := ⟨some 12, _, _, _, _, _⟩) rfl (fun K hK => ?_) AllReadyH.nil
 go_simp
 refine (HE.out _ (Below.drew B3.out)).mono ?_
 rintro e w4 ⟨f4, c4, rfl, hC4, hb4⟩
 have hz4 := hb4.size
 try simp at hz4
 have OC4 := Lib.hid (OwnR.mono hC4 (base' := w.heap.size) (by first | omega | (simp; done) | (simp; omega)))
 refine hK.out _ _ ?_ (fun hS' => ?_)
 ·exact (hS.below hb4)
 clear hK K hS
 have hS := hS'
 clear hS'
 try simp only [Act.put, List.setIfInBounds_toArray, List.set_cons_zero, List.set_cons_succ]
 try simp only [Act.put, List.setIfInBounds_toArray, List.set_cons_zero, List.set_cons_succ]
 refine wpAnyH_ready (rs := [10]) (by kernel_rfl) (by simp) ?_
 refine AllReadyH.cons (o := ⟨some 18, _, _, _, _, _⟩) rfl (fun K hK => ?_) AllReadyH.nil
 refine step_rowRl (K := KE) rfl _ _ rfl w.heap.size i (l - (i + 1)) _ (E.take i) (E.drop (i + 1)) rfl OC4.out HT.out (if c = i + 1 then some ⟨b, o, none⟩ else some ⟨b, o + (i + 1) * 14, none⟩) (c - (i + 1)) rfl HM.out (HR.out _ (bel_trans (Below.drew B3.out) hb4)) HF0.out (by omega) (by first | omega | (simp; omega)) ?_
 intro f5a c5a w5 hO5 hg5
 have hz5 := hg5.size
 try simp at hz5
 refine hK.out _ _ ?_ (fun hS' => ?_)
 ·exact (hS.grown hg5 (OC4.out.ne_box hS (by decide)))
 clear hK K hS
 have hS := hS'
 clear hS'
 try simp only [Act.put, List.setIfInBounds_toArray, List.set_cons_zero, List.set_cons_succ]
 refine tkR 11 19 (v := .pointer (some ⟨g3, 0, none⟩)) rfl hS (fun _ _ => by kernel_rfl) ?_
 try simp only [Act.put, List.setIfInBounds_toArray, List.set_cons_zero, List.set_cons_succ]
 refine wpAnyH_ready (rs := [12]) (by kernel_rfl) (by simp) ?_
 refine AllReadyH.cons (o := ⟨none, _, _, _, _, _⟩) rfl (fun K hK => ?_) AllReadyH.nil
 have zs0 := (((T3.out.drew).below hb4).grown hg5 (OC4.out.ne_box ((T3.out.drew).below hb4) (by decide))).free 0
 have cs0 := (((T3.out.drew).below hb4).grown hg5 (OC4.out.ne_box ((T3.out.drew).below hb4) (by decide))).get 0 (.slice f2 l c2) rfl
 go_simp
 clear zs0 cs0
 refine hK.out _ _ ?_ (fun hS' => ?_)
 ·exact (hS.other _ _ (show g1 ≠ g3 by omega))
 clear hK K hS
 have hS := hS'
 clear hS'
 try simp only [Act.put]
 refine wpAnyH_done (by kernel_rfl) ?_ _
 try simp only [Act.put, List.setIfInBounds_toArray, List.set_cons_zero, List.set_cons_succ]
 have A6 := Lib.hid (((((A3.out.drew).below hb4).grown hg5 (OC4.out.ne_box ((A3.out.drew).below hb4) (by decide))).other ⟨g3, 0, none⟩ (.slice f5a (i + (l - (i + 1))) c5a) (show g1 ≠ g3 by omega)))
 have R6 := Lib.hid (((((R3.out.drew).below hb4).grown hg5 (OC4.out.ne_box ((R3.out.drew).below hb4) (by decide))).other ⟨g3, 0, none⟩ (.slice f5a (i + (l - (i + 1))) c5a) (show g1 + 1 ≠ g3 by omega)))
 have T6 := Lib.hid (((((T3.out.drew).below hb4).grown hg5 (OC4.out.ne_box ((T3.out.drew).below hb4) (by decide))).set 0 (.slice f5a (i + (l - (i + 1))) c5a) #[.slice f5a (i + (l - (i + 1))) c5a, .slice g2 m d2] rfl))
 have D6 := Lib.hid (((((D3.out.drew).below hb4).grownO OC4.out (by decide) hg5).otherN ⟨g3, 0, none⟩ (.slice f5a (i + (l - (i + 1))) c5a) ((((D3.out.drew).below hb4).grownO OC4.out (by decide) hg5).ne_box (((T3.out.drew).below hb4).grown hg5 (OC4.out.ne_box ((T3.out.drew).below hb4) (by decide))) (by decide))))
 have C6 := Lib.hid ((hO5.otherN ⟨g3, 0, none⟩ (.slice f5a (i + (l - (i + 1))) c5a) (hO5.ne_box (((T3.out.drew).below hb4).grown hg5 (OC4.out.ne_box ((T3.out.drew).below hb4) (by decide))) (by decide))))
 have B6 := Lib.hid ((Below.setCell ((bel_trans (Below.drew B3.out) hb4).grown hg5 (by first | omega | (simp; omega)) (fun k hk => Nat.le_trans (show w.heap.size ≤ w.heap.size by omega) (OC4.out.blk k hk))) (p := ⟨g3, 0, none⟩) (show w.heap.size ≤ g3 by omega) (.slice f5a (i + (l - (i + 1))) c5a)))
 obtain ⟨W6, hW6⟩ : ∃ W6, W6 = (w5).setCell ⟨g3, 0, none⟩ (.slice f5a (i + (l - (i + 1))) c5a) := ⟨_, rfl⟩
 have hs6 : g3 + 1 ≤ W6.heap.size := by rw [hW6]; first | (simp [World.setCell]; omega) | (simp [World.setCell, World.setRow]; omega) | exact hs3
 rw [← hW6] at A6 R6 T6 D6 C6 B6 ⊢
 clear hW6 A3 R3 T3 D3 OC4 B3 hs3
 have Tc0 := T6.out.get 0 (.slice f5a (i + (l - (i + 1))) c5a) rfl
 have Tc1 := T6.out.get 1 (.slice g2 m d2) rfl
 go_wp2_with (refine wpList_storeB rfl 35 _ _ rfl (g1 + 1) #[.slice f5a (i + (l - (i + 1))) c5a, .slice g2 m d2] _ 35 rfl rfl (by kernel_rfl) (by rfl) (by simp [Value.oneCell']) R6.out ?_)
 all_goals
  have RR := (R6.out.put (cs' := #[.slice f5a (i + (l - (i + 1))) c5a, .slice g2 m d2]))
  refine bodyPost_ret (v := .agg #[.slice f5a (i + (l - (i + 1))) c5a, .slice g2 m d2]) (by simp [results, Tryz.results35, go_sem, RR.get 0 (.slice f5a (i + (l - (i + 1))) c5a) rfl, RR.get 1 (.slice g2 m d2) rfl]) rfl ?_
  exact ⟨f5a, i + (l - (i + 1)), c5a, g2, d2, rfl, HLN.out, (by rw [HXX.out]; exact (C6.out.rowN (cs := #[.slice f5a (i + (l - (i + 1))) c5a, .slice g2 m d2]) (C6.out.ne_box R6.out (by decide)))), (D6.out.rowN (cs := #[.slice f5a (i + (l - (i + 1))) c5a, .slice g2 m d2]) (D6.out.ne_box R6.out (by decide))), (Below.rowB (g := g1 + 1) B6.out (cs := #[.slice f5a (i + (l - (i + 1))) c5a, .slice g2 m d2]) (show w.heap.size ≤ g1 + 1 by omega))⟩
end
end Go.Proofs.YtmelepohdbojlaaGreat
