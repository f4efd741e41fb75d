/- The landed package tlb: the first one, the deepest one: contracts. -/
import Derived.Test.YtjohnpbfdpmajaaVb
set_option linter.all false
namespace Go.Proofs.Ytjohnpbfdpmajaa
open Go.ChangeShapes Go.WideShapes Go.ChangeAt Go.RowKit Go.Deep

/-- The first one that is so, or none. -/
def fndE (p : Ety → Bool) : List Ety → Ety × Int
  | [] => (ent0, 3)
  | x :: L => if p x then (x, 0) else fndE p L
/-- The deepest one that is so. -/
def deepF (p : Ety → Bool) : List Ety → Ety → Ety
  | [], y => y
  | x :: L, y => if decide (x.k = 3) && (decide (y.lv < x.lv) && p x) then deepF p L x else deepF p L y
def firstR (E : List Ety) (D : List Inv) (kd vm sp pg acc : Int) : Ety × Int :=
  if (mayT E D && (numB acc 2 && mayPl vm sp pg)) = true then fndE (fitsE kd vm sp pg acc) E else (ent0, 1)
def deepR (E : List Ety) (D : List Inv) (vm sp pg : Int) : Ety × Int :=
  if (mayT E D && mayPl vm sp pg) = true then (if (deepF (isE vm sp pg) E ent0).lv = 0 then (ent0, 3) else (deepF (isE vm sp pg) E ent0, 0)) else (ent0, 1)
theorem allF_may (E : List Ety) : ∀ (L : List Ety) (k : Int), allF E L k = true → ∀ x ∈ L, mayEn x = true
  | [], _, _, x, hx => by cases hx
  | y :: L, k, h, x, hx => by
    unfold allF at h
    simp only [Bool.and_eq_true] at h
    rcases List.mem_cons.1 hx with rfl | hx
    · exact h.1
    · exact allF_may E L (k + 1) h.2.2 x hx
theorem mayT_may {E : List Ety} {D : List Inv} (h : mayT E D = true) : ∀ x ∈ E, mayEn x = true := by
  unfold mayT at h
  simp only [Bool.and_eq_true] at h
  exact allF_may E E 0 h.1
theorem mayEn_lv {e : Ety} (h : mayEn e = true) (hk : e.k = 3) : 1 ≤ e.lv ∧ e.lv ≤ 3 := by
  rw [mayEn_two] at h
  unfold kindE at h
  rw [hk] at h
  simp at h
  exact ⟨h.2.1, h.2.2.1⟩
theorem mayPl_pg {vm sp pg : Int} (h : mayPl vm sp pg = true) : 0 ≤ pg ∧ pg ≤ 4095 := by
  unfold mayPl at h
  simp only [Bool.and_eq_true] at h
  exact numB_iff.1 h.2.2
set_option maxRecDepth 100000 in
set_option maxHeartbeats 3200000 in
theorem tdeep_any (f g : Option Addr) (l c m d : Nat) (E : List Ety) (D : List Inv) (vm sp pg : Int) (w : World) (hL : RowsAt KE w f E) (hn : l = E.length) (hD : RowsAt KI w g D) (ho : m = D.length) (hl : l ≤ 1000000) (hm : m ≤ 1000000) (hc : l ≤ c) (hc2 : c ≤ maxLen) :
    Calls Try.prog 80 #[.agg #[.slice f l c, .slice g m d], .agg #[.int .i64 vm, .int .i64 sp, .int .i64 pg]] w fun r w' => r = .returned (.tuple #[entV (deepR E D vm sp pg).1, .int .i64 (deepR E D vm sp pg).2]) ∧ Below w.heap.size w w' := by
  have HM := Lib.hid (fun W (hB : Below w.heap.size w W) => tmay_any f g l c m d E D W (hL.below hB) hn (hD.below hB) ho hl hm hc hc2)
  have HA := Lib.hid (fun W => tplace_any vm sp pg W)
  have HL := Lib.hid hL
  have HN := Lib.hid hn
  clear hL hn hD ho
  obtain ⟨q, hq⟩ : ∃ q, q = deepR E D vm sp pg := ⟨_, rfl⟩
  rw [← hq]
  have HF0 := Lib.hid (show mayT E D = true → mayPl vm sp pg = true → ∀ x ∈ E, ∀ W, _ from fun h1 h2 x hx W => tisof_any x vm sp pg (mayEn_lv (mayT_may h1 x hx)) (mayPl_pg h2) W)
  unfold deepR at hq
  generalize isE vm sp pg = pp at *
  generalize mayT E D = qm at *
  generalize mayPl vm sp pg = qk at *
  have HR0 := Lib.hid hq
  clear hq
  have htw : w.heap.size ≤ w.heap.size := Nat.le_refl _
  have B0 := Lib.hid (Below.refl w.heap.size w)
  go_enter Try.func80, Try.ntmps80
  go_upto_region 1 with fail
  have T1 := Lib.hid ((((BoxAt.newAt (w) #[.slice f l c, .slice g m d] 88 (w.heap.size) (by first | omega | (simp; done) | (simp; omega))).alloc (.cells #[.int .i64 vm, .int .i64 sp, .int .i64 pg] 100)).alloc (.cells #[.int .i64 0, .int .i64 0, .int .i64 0, .bool false, .int .i64 0, .int .i64 0, .int .i64 0, .int .i64 0, .bool false, .bool false, .bool false, .bool false, .bool false, .int .i64 0] 36)))
  have L1 := Lib.hid (((BoxAt.newAt ((w).alloc (.cells #[.slice f l c, .slice g m d] 88)) #[.int .i64 vm, .int .i64 sp, .int .i64 pg] 100 (w.heap.size + 1) (by first | omega | (simp; done) | (simp; omega))).alloc (.cells #[.int .i64 0, .int .i64 0, .int .i64 0, .bool false, .int .i64 0, .int .i64 0, .int .i64 0, .int .i64 0, .bool false, .bool false, .bool false, .bool false, .bool false, .int .i64 0] 36)))
  have R1 := Lib.hid ((BoxAt.newAt (((w).alloc (.cells #[.slice f l c, .slice g m d] 88)).alloc (.cells #[.int .i64 vm, .int .i64 sp, .int .i64 pg] 100)) #[.int .i64 0, .int .i64 0, .int .i64 0, .bool false, .int .i64 0, .int .i64 0, .int .i64 0, .int .i64 0, .bool false, .bool false, .bool false, .bool false, .bool false, .int .i64 0] 36 (w.heap.size + 1 + 1) (by first | omega | (simp; done) | (simp; omega))))
  have B1 := Lib.hid ((bel_alloc (bel_alloc (bel_alloc B0.out (.cells #[.slice f l c, .slice g m d] 88)) (.cells #[.int .i64 vm, .int .i64 sp, .int .i64 pg] 100)) (.cells #[.int .i64 0, .int .i64 0, .int .i64 0, .bool false, .int .i64 0, .int .i64 0, .int .i64 0, .int .i64 0, .bool false, .bool false, .bool false, .bool false, .bool false, .int .i64 0] 36)))
  obtain ⟨g1, hg1⟩ : ∃ g1, g1 = w.heap.size := ⟨_, rfl⟩
  obtain ⟨W1, hW1⟩ : ∃ W1, W1 = (((w).alloc (.cells #[.slice f l c, .slice g m d] 88)).alloc (.cells #[.int .i64 vm, .int .i64 sp, .int .i64 pg] 100)).alloc (.cells #[.int .i64 0, .int .i64 0, .int .i64 0, .bool false, .int .i64 0, .int .i64 0, .int .i64 0, .int .i64 0, .bool false, .bool false, .bool false, .bool false, .bool false, .int .i64 0] 36) := ⟨_, rfl⟩
  have hs1 : g1 + 1 + 1 + 1 ≤ W1.heap.size := by rw [hW1, hg1]; simp
  rw [← hW1] at T1 L1 R1 B1 ⊢
  have hb1 : w.heap.size ≤ g1 := by omega
  rw [← hg1] at T1 L1 R1 ⊢
  clear hg1
  clear hW1 B0
  have Tc0 := T1.out.get 0 (.slice f l c) rfl
  have Tc1 := T1.out.get 1 (.slice g m d) rfl
  go_wp2_with fail
  refine (HM.out _ B1.out).mono ?_
  rintro e w2 ⟨rfl, hb2⟩
  have hz2 := hb2.size
  have T2 := Lib.hid (T1.out.below hb2)
  have L2 := Lib.hid (L1.out.below hb2)
  have R2 := Lib.hid (R1.out.below hb2)
  have B2 := Lib.hid (bel_trans B1.out hb2)
  skip
  have hs2 : g1 + 1 + 1 + 1 ≤ w2.heap.size := by omega
  clear Tc0 Tc1
  clear T1 L1 R1 B1 hs1 hb2 hz2
  cases qm
  · go_wp2_with (refine wpList_storeB rfl 36 _ _ rfl (g1 + 1 + 1) #[.int .i64 0, .int .i64 0, .int .i64 0, .bool false, .int .i64 0, .int .i64 0, .int .i64 0, .int .i64 0, .bool false, .bool false, .bool false, .bool false, .bool false, .int .i64 0] _ 36 rfl rfl (by kernel_rfl) (by rfl) (by simp [Value.oneCell']) R2.out ?_)
    all_goals
      have RR := (R2.out.put (cs' := #[.int .i64 0, .int .i64 0, .int .i64 0, .bool false, .int .i64 0, .int .i64 0, .int .i64 0, .int .i64 0, .bool false, .bool false, .bool false, .bool false, .bool false, .int .i64 0]))
      refine bodyPost_ret (v := .tuple #[.agg #[.int .i64 0, .int .i64 0, .int .i64 0, .bool false, .int .i64 0, .int .i64 0, .int .i64 0, .int .i64 0, .bool false, .bool false, .bool false, .bool false, .bool false, .int .i64 0], .int .i64 1]) (by simp [results, Try.results80, go_sem, RR.get 0 (.int .i64 0) rfl, RR.get 1 (.int .i64 0) rfl, RR.get 2 (.int .i64 0) rfl, RR.get 3 (.bool false) rfl, RR.get 4 (.int .i64 0) rfl, RR.get 5 (.int .i64 0) rfl, RR.get 6 (.int .i64 0) rfl, RR.get 7 (.int .i64 0) rfl, RR.get 8 (.bool false) rfl, RR.get 9 (.bool false) rfl, RR.get 10 (.bool false) rfl, RR.get 11 (.bool false) rfl, RR.get 12 (.bool false) rfl, RR.get 13 (.int .i64 0) rfl]) rfl ?_
      exact ⟨by rw [HR0.out]; rfl, (Below.rowB (g := g1 + 1 + 1) B2.out (cs := #[.int .i64 0, .int .i64 0, .int .i64 0, .bool false, .int .i64 0, .int .i64 0, .int .i64 0, .int .i64 0, .bool false, .bool false, .bool false, .bool false, .bool false, .int .i64 0]) (show w.heap.size ≤ g1 + 1 + 1 by omega))⟩
  have Lc0 := L2.out.get 0 (.int .i64 vm) rfl
  have Lc1 := L2.out.get 1 (.int .i64 sp) rfl
  have Lc2 := L2.out.get 2 (.int .i64 pg) rfl
  go_wp2_with fail
  refine (HA.out _).mono ?_
  rintro e w3 ⟨rfl, hb3⟩
  have hz3 := hb3.size
  have T3 := Lib.hid (T2.out.below hb3)
  have L3 := Lib.hid (L2.out.below hb3)
  have R3 := Lib.hid (R2.out.below hb3)
  have B3 := Lib.hid (bel_trans B2.out hb3)
  skip
  have hs3 : g1 + 1 + 1 + 1 ≤ w3.heap.size := by omega
  clear Lc0 Lc1 Lc2
  clear T2 L2 R2 B2 hs2 hb3 hz3
  cases qk
  · go_wp2_with (refine wpList_storeB rfl 36 _ _ rfl (g1 + 1 + 1) #[.int .i64 0, .int .i64 0, .int .i64 0, .bool false, .int .i64 0, .int .i64 0, .int .i64 0, .int .i64 0, .bool false, .bool false, .bool false, .bool false, .bool false, .int .i64 0] _ 36 rfl rfl (by kernel_rfl) (by rfl) (by simp [Value.oneCell']) R3.out ?_)
    all_goals
      have RR := (R3.out.put (cs' := #[.int .i64 0, .int .i64 0, .int .i64 0, .bool false, .int .i64 0, .int .i64 0, .int .i64 0, .int .i64 0, .bool false, .bool false, .bool false, .bool false, .bool false, .int .i64 0]))
      refine bodyPost_ret (v := .tuple #[.agg #[.int .i64 0, .int .i64 0, .int .i64 0, .bool false, .int .i64 0, .int .i64 0, .int .i64 0, .int .i64 0, .bool false, .bool false, .bool false, .bool false, .bool false, .int .i64 0], .int .i64 1]) (by simp [results, Try.results80, go_sem, RR.get 0 (.int .i64 0) rfl, RR.get 1 (.int .i64 0) rfl, RR.get 2 (.int .i64 0) rfl, RR.get 3 (.bool false) rfl, RR.get 4 (.int .i64 0) rfl, RR.get 5 (.int .i64 0) rfl, RR.get 6 (.int .i64 0) rfl, RR.get 7 (.int .i64 0) rfl, RR.get 8 (.bool false) rfl, RR.get 9 (.bool false) rfl, RR.get 10 (.bool false) rfl, RR.get 11 (.bool false) rfl, RR.get 12 (.bool false) rfl, RR.get 13 (.int .i64 0) rfl]) rfl ?_
      exact ⟨by rw [HR0.out]; rfl, (Below.rowB (g := g1 + 1 + 1) B3.out (cs := #[.int .i64 0, .int .i64 0, .int .i64 0, .bool false, .int .i64 0, .int .i64 0, .int .i64 0, .int .i64 0, .bool false, .bool false, .bool false, .bool false, .bool false, .int .i64 0]) (show w.heap.size ≤ g1 + 1 + 1 by omega))⟩
  go_upto_region 4 with fail
  have T4 := Lib.hid ((T3.out.alloc (.cells #[.int .i64 0, .int .i64 0, .int .i64 0, .bool false, .int .i64 0, .int .i64 0, .int .i64 0, .int .i64 0, .bool false, .bool false, .bool false, .bool false, .bool false, .int .i64 0] 36)))
  have L4 := Lib.hid ((L3.out.alloc (.cells #[.int .i64 0, .int .i64 0, .int .i64 0, .bool false, .int .i64 0, .int .i64 0, .int .i64 0, .int .i64 0, .bool false, .bool false, .bool false, .bool false, .bool false, .int .i64 0] 36)))
  have R4 := Lib.hid ((R3.out.alloc (.cells #[.int .i64 0, .int .i64 0, .int .i64 0, .bool false, .int .i64 0, .int .i64 0, .int .i64 0, .int .i64 0, .bool false, .bool false, .bool false, .bool false, .bool false, .int .i64 0] 36)))
  have Q4 := Lib.hid ((BoxAt.newAt (w3) #[.int .i64 0, .int .i64 0, .int .i64 0, .bool false, .int .i64 0, .int .i64 0, .int .i64 0, .int .i64 0, .bool false, .bool false, .bool false, .bool false, .bool false, .int .i64 0] 36 (w3.heap.size) (by first | omega | (simp; done) | (simp; omega))))
  have B4 := Lib.hid ((bel_alloc B3.out (.cells #[.int .i64 0, .int .i64 0, .int .i64 0, .bool false, .int .i64 0, .int .i64 0, .int .i64 0, .int .i64 0, .bool false, .bool false, .bool false, .bool false, .bool false, .int .i64 0] 36)))
  obtain ⟨g4, hg4⟩ : ∃ g4, g4 = w3.heap.size := ⟨_, rfl⟩
  obtain ⟨W4, hW4⟩ : ∃ W4, W4 = (w3).alloc (.cells #[.int .i64 0, .int .i64 0, .int .i64 0, .bool false, .int .i64 0, .int .i64 0, .int .i64 0, .int .i64 0, .bool false, .bool false, .bool false, .bool false, .bool false, .int .i64 0] 36) := ⟨_, rfl⟩
  have hs4 : g4 + 1 ≤ W4.heap.size := by rw [hW4, hg4]; simp
  rw [← hW4] at T4 L4 R4 Q4 B4 ⊢
  have hb4 : g1 + 1 + 1 + 1 ≤ g4 := by omega
  rw [← hg4] at Q4 ⊢
  clear hg4
  clear hW4 T3 L3 R3 B3 hs3
  have Tc0 := T4.out.get 0 (.slice f l c) rfl
  go_wp2
  clear Tc0
  have HQ := Lib.hid (show (if (deepF pp (E.drop 0) ent0).lv = 0 then (ent0, 3) else (deepF pp (E.drop 0) ent0, 0)) = q from by rw [HR0.out]; rfl)
  clear HR0
  go_loopw [23] (fun i wr => ∃ (k : Nat) (y : Ety), k ≤ l ∧ i = .int .i64 k ∧ Hid (BoxAt wr (g1) #[.slice f l c, .slice g m d] 88) ∧ Hid (BoxAt wr (g1 + 1) #[.int .i64 vm, .int .i64 sp, .int .i64 pg] 100) ∧ Hid (BoxAt wr (g1 + 1 + 1) #[.int .i64 0, .int .i64 0, .int .i64 0, .bool false, .int .i64 0, .int .i64 0, .int .i64 0, .int .i64 0, .bool false, .bool false, .bool false, .bool false, .bool false, .int .i64 0] 36) ∧ Hid (BoxAt wr (g4) #[.int .i64 y.k, .int .i64 y.vm, .int .i64 y.sp, .bool y.al, .int .i64 y.pg, .int .i64 y.lv, .int .i64 y.fr, .int .i64 y.mi, .bool y.t.r, .bool y.t.w, .bool y.t.x, .bool y.t.a, .bool y.t.n, .int .i64 y.t.s] 36) ∧ Hid (Below w.heap.size w wr) ∧ Hid ((if (deepF pp (E.drop k) y).lv = 0 then (ent0, 3) else (deepF pp (E.drop k) y, 0)) = q)) (fun i _ => l - (intOf i).toNat)
  case atStart => exact ⟨0, ent0, Nat.zero_le _, rfl, T4.out, L4.out, R4.out, Q4.out, B4.out, HQ⟩
  case round =>
    clear B4 T4 L4 R4 Q4 HQ
    obtain ⟨k, y, hk, rfl, Tr, Lr, Rr, Qr, Br, HQ⟩ := hrel
    have hsr : g4 + 1 ≤ wr.heap.size := by have h1 := Tr.out.lt; have h2 := Lr.out.lt; have h3 := Rr.out.lt; have h4 := Qr.out.lt; omega
    by_cases hlt : k < l
    · obtain ⟨x, hx⟩ := rows_some HN.out hlt
      obtain ⟨b, o, rfl, hr0⟩ := HL.out k x hx
      have HRX := Lib.hid (show RowAt w b (o + k * 14) 14 #[.int .i64 x.k, .int .i64 x.vm, .int .i64 x.sp, .bool x.al, .int .i64 x.pg, .int .i64 x.lv, .int .i64 x.fr, .int .i64 x.mi, .bool x.t.r, .bool x.t.w, .bool x.t.x, .bool x.t.a, .bool x.t.n, .int .i64 x.t.s] from hr0)
      have hbk : b < w.heap.size := hr0.lt
      clear hr0
      have i1 : (0 : Int) ≤ (k : Int) := by omega
      have i2 : (k : Int) < (l : Int) := by omega
      have hxd := rows_drop hx
      have HX := Lib.hid hxd
      have hfx := fun W => HF0.out (by first | trivial | rfl) (by first | trivial | rfl) x (List.mem_of_getElem? hx) W
      have HFX := Lib.hid hfx
      clear hfx hx hxd
      obtain ⟨o1, ho1⟩ : ∃ o1, o1 = pp x := ⟨_, rfl⟩
      rw [← ho1] at HFX
      have ho1h := Lib.hid ho1
      clear ho1
      unfold entV entC at HFX
      have yX := (HRX.out.below Br.out)
      have yX0 := yX.get0 (.int .i64 x.k) (by decide) rfl
      have yX1 := yX.get 1 (.int .i64 x.vm) (by decide) rfl
      have yX2 := yX.get 2 (.int .i64 x.sp) (by decide) rfl
      have yX3 := yX.get 3 (.bool x.al) (by decide) rfl
      have yX4 := yX.get 4 (.int .i64 x.pg) (by decide) rfl
      have yX5 := yX.get 5 (.int .i64 x.lv) (by decide) rfl
      have yX6 := yX.get 6 (.int .i64 x.fr) (by decide) rfl
      have yX7 := yX.get 7 (.int .i64 x.mi) (by decide) rfl
      have yX8 := yX.get 8 (.bool x.t.r) (by decide) rfl
      have yX9 := yX.get 9 (.bool x.t.w) (by decide) rfl
      have yX10 := yX.get 10 (.bool x.t.x) (by decide) rfl
      have yX11 := yX.get 11 (.bool x.t.a) (by decide) rfl
      have yX12 := yX.get 12 (.bool x.t.n) (by decide) rfl
      have yX13 := yX.get 13 (.int .i64 x.t.s) (by decide) rfl
      clear yX
      go_upto_region 7 with fail
      clear yX0 yX1 yX2 yX3 yX4 yX5 yX6 yX7 yX8 yX9 yX10 yX11 yX12 yX13
      have T5 := Lib.hid ((Tr.out.alloc (.cells #[.int .i64 x.k, .int .i64 x.vm, .int .i64 x.sp, .bool x.al, .int .i64 x.pg, .int .i64 x.lv, .int .i64 x.fr, .int .i64 x.mi, .bool x.t.r, .bool x.t.w, .bool x.t.x, .bool x.t.a, .bool x.t.n, .int .i64 x.t.s] 36)))
      have L5 := Lib.hid ((Lr.out.alloc (.cells #[.int .i64 x.k, .int .i64 x.vm, .int .i64 x.sp, .bool x.al, .int .i64 x.pg, .int .i64 x.lv, .int .i64 x.fr, .int .i64 x.mi, .bool x.t.r, .bool x.t.w, .bool x.t.x, .bool x.t.a, .bool x.t.n, .int .i64 x.t.s] 36)))
      have R5 := Lib.hid ((Rr.out.alloc (.cells #[.int .i64 x.k, .int .i64 x.vm, .int .i64 x.sp, .bool x.al, .int .i64 x.pg, .int .i64 x.lv, .int .i64 x.fr, .int .i64 x.mi, .bool x.t.r, .bool x.t.w, .bool x.t.x, .bool x.t.a, .bool x.t.n, .int .i64 x.t.s] 36)))
      have Q5 := Lib.hid ((Qr.out.alloc (.cells #[.int .i64 x.k, .int .i64 x.vm, .int .i64 x.sp, .bool x.al, .int .i64 x.pg, .int .i64 x.lv, .int .i64 x.fr, .int .i64 x.mi, .bool x.t.r, .bool x.t.w, .bool x.t.x, .bool x.t.a, .bool x.t.n, .int .i64 x.t.s] 36)))
      have E5 := Lib.hid ((BoxAt.newAt (wr) #[.int .i64 x.k, .int .i64 x.vm, .int .i64 x.sp, .bool x.al, .int .i64 x.pg, .int .i64 x.lv, .int .i64 x.fr, .int .i64 x.mi, .bool x.t.r, .bool x.t.w, .bool x.t.x, .bool x.t.a, .bool x.t.n, .int .i64 x.t.s] 36 (wr.heap.size) (by first | omega | (simp; done) | (simp; omega))))
      have B5 := Lib.hid ((bel_alloc Br.out (.cells #[.int .i64 x.k, .int .i64 x.vm, .int .i64 x.sp, .bool x.al, .int .i64 x.pg, .int .i64 x.lv, .int .i64 x.fr, .int .i64 x.mi, .bool x.t.r, .bool x.t.w, .bool x.t.x, .bool x.t.a, .bool x.t.n, .int .i64 x.t.s] 36)))
      obtain ⟨g5, hg5⟩ : ∃ g5, g5 = wr.heap.size := ⟨_, rfl⟩
      obtain ⟨W5, hW5⟩ : ∃ W5, W5 = (wr).alloc (.cells #[.int .i64 x.k, .int .i64 x.vm, .int .i64 x.sp, .bool x.al, .int .i64 x.pg, .int .i64 x.lv, .int .i64 x.fr, .int .i64 x.mi, .bool x.t.r, .bool x.t.w, .bool x.t.x, .bool x.t.a, .bool x.t.n, .int .i64 x.t.s] 36) := ⟨_, rfl⟩
      have hs5 : g5 + 1 ≤ W5.heap.size := by rw [hW5, hg5]; simp
      rw [← hW5] at T5 L5 R5 Q5 E5 B5 ⊢
      have hb5 : g4 + 1 ≤ g5 := by omega
      rw [← hg5] at E5 ⊢
      clear hg5
      clear hW5 Tr Lr Rr Qr Br hsr
      have Ec0 := E5.out.get 0 (.int .i64 x.k) rfl
      cases qk3 : decide (x.k = 3)
      · have ek3 : (x.k == 3) = false := (beq_int _ _).trans qk3
        have HQ := Lib.hid (show (if (deepF pp (E.drop (k + 1)) y).lv = 0 then (ent0, 3) else (deepF pp (E.drop (k + 1)) y, 0)) = q from by rw [← HQ.out, HX.out]; simp [deepF, qk3])
        clear qk3
        go_wp2
        go_roundw
        case rel => exact ⟨k + 1, y, by omega, by go_num, T5.out, L5.out, R5.out, Q5.out, B5.out, HQ⟩
        case measure => simp [intOf]; omega
      have ek3 : (x.k == 3) = true := (beq_int _ _).trans qk3
      have hk3 := Lib.hid qk3
      clear qk3
      have Ec5 := E5.out.get 5 (.int .i64 x.lv) rfl
      have Qc5 := Q5.out.get 5 (.int .i64 y.lv) rfl
      cases qlv : decide (y.lv < x.lv)
      · have HQ := Lib.hid (show (if (deepF pp (E.drop (k + 1)) y).lv = 0 then (ent0, 3) else (deepF pp (E.drop (k + 1)) y, 0)) = q from by rw [← HQ.out, HX.out]; simp [deepF, qlv])
        go_wp2
        go_roundw
        case rel => exact ⟨k + 1, y, by omega, by go_num, T5.out, L5.out, R5.out, Q5.out, B5.out, HQ⟩
        case measure => simp [intOf]; omega
      have Ec1 := E5.out.get 1 (.int .i64 x.vm) rfl
      have Ec2 := E5.out.get 2 (.int .i64 x.sp) rfl
      have Ec3 := E5.out.get 3 (.bool x.al) rfl
      have Ec4 := E5.out.get 4 (.int .i64 x.pg) rfl
      have Ec6 := E5.out.get 6 (.int .i64 x.fr) rfl
      have Ec7 := E5.out.get 7 (.int .i64 x.mi) rfl
      have Ec8 := E5.out.get 8 (.bool x.t.r) rfl
      have Ec9 := E5.out.get 9 (.bool x.t.w) rfl
      have Ec10 := E5.out.get 10 (.bool x.t.x) rfl
      have Ec11 := E5.out.get 11 (.bool x.t.a) rfl
      have Ec12 := E5.out.get 12 (.bool x.t.n) rfl
      have Ec13 := E5.out.get 13 (.int .i64 x.t.s) rfl
      have Lc0 := L5.out.get 0 (.int .i64 vm) rfl
      have Lc1 := L5.out.get 1 (.int .i64 sp) rfl
      have Lc2 := L5.out.get 2 (.int .i64 pg) rfl
      go_wp2_with fail
      refine (HFX.out _).mono ?_
      rintro e w6 ⟨rfl, hb6⟩
      have hz6 := hb6.size
      have T6 := Lib.hid (T5.out.below hb6)
      have L6 := Lib.hid (L5.out.below hb6)
      have R6 := Lib.hid (R5.out.below hb6)
      have Q6 := Lib.hid (Q5.out.below hb6)
      have E6 := Lib.hid (E5.out.below hb6)
      have B6 := Lib.hid (bel_trans B5.out hb6)
      skip
      have hs6 : g5 + 1 ≤ w6.heap.size := by omega
      clear Ec0 Ec5 Qc5 Ec1 Ec2 Ec3 Ec4 Ec6 Ec7 Ec8 Ec9 Ec10 Ec11 Ec12 Ec13 Lc0 Lc1 Lc2
      clear T5 L5 R5 Q5 E5 B5 hs5 hb6 hz6
      cases o1
      · have HQ := Lib.hid (show (if (deepF pp (E.drop (k + 1)) y).lv = 0 then (ent0, 3) else (deepF pp (E.drop (k + 1)) y, 0)) = q from by rw [← HQ.out, HX.out]; simp [deepF, ho1h.out.symm])
        go_wp2
        go_roundw
        case rel => exact ⟨k + 1, y, by omega, by go_num, T6.out, L6.out, R6.out, Q6.out, B6.out, HQ⟩
        case measure => simp [intOf]; omega
      have HQ := Lib.hid (show (if (deepF pp (E.drop (k + 1)) x).lv = 0 then (ent0, 3) else (deepF pp (E.drop (k + 1)) x, 0)) = q from by rw [← HQ.out, HX.out]; simp [deepF, ho1h.out.symm, hk3.out, qlv])
      have Ec0 := E6.out.get 0 (.int .i64 x.k) rfl
      have Ec1 := E6.out.get 1 (.int .i64 x.vm) rfl
      have Ec2 := E6.out.get 2 (.int .i64 x.sp) rfl
      have Ec3 := E6.out.get 3 (.bool x.al) rfl
      have Ec4 := E6.out.get 4 (.int .i64 x.pg) rfl
      have Ec5 := E6.out.get 5 (.int .i64 x.lv) rfl
      have Ec6 := E6.out.get 6 (.int .i64 x.fr) rfl
      have Ec7 := E6.out.get 7 (.int .i64 x.mi) rfl
      have Ec8 := E6.out.get 8 (.bool x.t.r) rfl
      have Ec9 := E6.out.get 9 (.bool x.t.w) rfl
      have Ec10 := E6.out.get 10 (.bool x.t.x) rfl
      have Ec11 := E6.out.get 11 (.bool x.t.a) rfl
      have Ec12 := E6.out.get 12 (.bool x.t.n) rfl
      have Ec13 := E6.out.get 13 (.int .i64 x.t.s) rfl
      go_upto_region 9 with (refine wpList_storeB rfl 36 _ _ rfl (g4) #[.int .i64 x.k, .int .i64 x.vm, .int .i64 x.sp, .bool x.al, .int .i64 x.pg, .int .i64 x.lv, .int .i64 x.fr, .int .i64 x.mi, .bool x.t.r, .bool x.t.w, .bool x.t.x, .bool x.t.a, .bool x.t.n, .int .i64 x.t.s] _ 36 rfl rfl (by kernel_rfl) (by rfl) (by simp [Value.oneCell']) Q6.out ?_)
      clear Ec0 Ec1 Ec2 Ec3 Ec4 Ec5 Ec6 Ec7 Ec8 Ec9 Ec10 Ec11 Ec12 Ec13
      have T7 := Lib.hid ((T6.out.row (cs' := #[.int .i64 x.k, .int .i64 x.vm, .int .i64 x.sp, .bool x.al, .int .i64 x.pg, .int .i64 x.lv, .int .i64 x.fr, .int .i64 x.mi, .bool x.t.r, .bool x.t.w, .bool x.t.x, .bool x.t.a, .bool x.t.n, .int .i64 x.t.s]) (show g1 ≠ g4 by omega)))
      have L7 := Lib.hid ((L6.out.row (cs' := #[.int .i64 x.k, .int .i64 x.vm, .int .i64 x.sp, .bool x.al, .int .i64 x.pg, .int .i64 x.lv, .int .i64 x.fr, .int .i64 x.mi, .bool x.t.r, .bool x.t.w, .bool x.t.x, .bool x.t.a, .bool x.t.n, .int .i64 x.t.s]) (show g1 + 1 ≠ g4 by omega)))
      have R7 := Lib.hid ((R6.out.row (cs' := #[.int .i64 x.k, .int .i64 x.vm, .int .i64 x.sp, .bool x.al, .int .i64 x.pg, .int .i64 x.lv, .int .i64 x.fr, .int .i64 x.mi, .bool x.t.r, .bool x.t.w, .bool x.t.x, .bool x.t.a, .bool x.t.n, .int .i64 x.t.s]) (show g1 + 1 + 1 ≠ g4 by omega)))
      have Q7 := Lib.hid ((Q6.out.put (cs' := #[.int .i64 x.k, .int .i64 x.vm, .int .i64 x.sp, .bool x.al, .int .i64 x.pg, .int .i64 x.lv, .int .i64 x.fr, .int .i64 x.mi, .bool x.t.r, .bool x.t.w, .bool x.t.x, .bool x.t.a, .bool x.t.n, .int .i64 x.t.s])))
      have E7 := Lib.hid ((E6.out.row (cs' := #[.int .i64 x.k, .int .i64 x.vm, .int .i64 x.sp, .bool x.al, .int .i64 x.pg, .int .i64 x.lv, .int .i64 x.fr, .int .i64 x.mi, .bool x.t.r, .bool x.t.w, .bool x.t.x, .bool x.t.a, .bool x.t.n, .int .i64 x.t.s]) (show g5 ≠ g4 by omega)))
      have B7 := Lib.hid ((Below.rowB (g := g4) B6.out (cs := #[.int .i64 x.k, .int .i64 x.vm, .int .i64 x.sp, .bool x.al, .int .i64 x.pg, .int .i64 x.lv, .int .i64 x.fr, .int .i64 x.mi, .bool x.t.r, .bool x.t.w, .bool x.t.x, .bool x.t.a, .bool x.t.n, .int .i64 x.t.s]) (show w.heap.size ≤ g4 by omega)))
      obtain ⟨W7, hW7⟩ : ∃ W7, W7 = (w6).setRow (g4) #[.int .i64 x.k, .int .i64 x.vm, .int .i64 x.sp, .bool x.al, .int .i64 x.pg, .int .i64 x.lv, .int .i64 x.fr, .int .i64 x.mi, .bool x.t.r, .bool x.t.w, .bool x.t.x, .bool x.t.a, .bool x.t.n, .int .i64 x.t.s] := ⟨_, rfl⟩
      have hs7 : g5 + 1 ≤ W7.heap.size := by rw [hW7]; first | exact hs6 | omega | (simp; omega)
      rw [← hW7] at T7 L7 R7 Q7 E7 B7 ⊢
      clear hW7 T6 L6 R6 Q6 E6 B6 hs6
      go_wp2
      go_roundw
      case rel => exact ⟨k + 1, x, by omega, by go_num, T7.out, L7.out, R7.out, Q7.out, B7.out, HQ⟩
      case measure => simp [intOf]; omega
    · have hq2 := HQ.out
      rw [rows_end HN.out hlt] at hq2
      unfold deepF at hq2
      have HP := Lib.hid hq2
      clear hq2 HQ
      have Qc5 := Qr.out.get 5 (.int .i64 y.lv) rfl
      cases qy : decide (y.lv = 0)
      · have ey : (y.lv == 0) = false := (beq_int _ _).trans qy
        have HR := Lib.hid (show (y, 0) = q from by rw [← HP.out, if_neg (of_decide_eq_false qy)])
        clear qy
        have Qc0 := Qr.out.get 0 (.int .i64 y.k) rfl
        have Qc1 := Qr.out.get 1 (.int .i64 y.vm) rfl
        have Qc2 := Qr.out.get 2 (.int .i64 y.sp) rfl
        have Qc3 := Qr.out.get 3 (.bool y.al) rfl
        have Qc4 := Qr.out.get 4 (.int .i64 y.pg) rfl
        have Qc6 := Qr.out.get 6 (.int .i64 y.fr) rfl
        have Qc7 := Qr.out.get 7 (.int .i64 y.mi) rfl
        have Qc8 := Qr.out.get 8 (.bool y.t.r) rfl
        have Qc9 := Qr.out.get 9 (.bool y.t.w) rfl
        have Qc10 := Qr.out.get 10 (.bool y.t.x) rfl
        have Qc11 := Qr.out.get 11 (.bool y.t.a) rfl
        have Qc12 := Qr.out.get 12 (.bool y.t.n) rfl
        have Qc13 := Qr.out.get 13 (.int .i64 y.t.s) rfl
        go_wp2_with (refine wpList_storeB rfl 36 _ _ rfl (g1 + 1 + 1) #[.int .i64 y.k, .int .i64 y.vm, .int .i64 y.sp, .bool y.al, .int .i64 y.pg, .int .i64 y.lv, .int .i64 y.fr, .int .i64 y.mi, .bool y.t.r, .bool y.t.w, .bool y.t.x, .bool y.t.a, .bool y.t.n, .int .i64 y.t.s] _ 36 rfl rfl (by kernel_rfl) (by rfl) (by simp [Value.oneCell']) Rr.out ?_)
        have RR := (Rr.out.put (cs' := #[.int .i64 y.k, .int .i64 y.vm, .int .i64 y.sp, .bool y.al, .int .i64 y.pg, .int .i64 y.lv, .int .i64 y.fr, .int .i64 y.mi, .bool y.t.r, .bool y.t.w, .bool y.t.x, .bool y.t.a, .bool y.t.n, .int .i64 y.t.s]))
        refine bodyPost_ret (v := .tuple #[.agg #[.int .i64 y.k, .int .i64 y.vm, .int .i64 y.sp, .bool y.al, .int .i64 y.pg, .int .i64 y.lv, .int .i64 y.fr, .int .i64 y.mi, .bool y.t.r, .bool y.t.w, .bool y.t.x, .bool y.t.a, .bool y.t.n, .int .i64 y.t.s], .int .i64 0]) (by simp [results, Try.results80, go_sem, RR.get 0 (.int .i64 y.k) rfl, RR.get 1 (.int .i64 y.vm) rfl, RR.get 2 (.int .i64 y.sp) rfl, RR.get 3 (.bool y.al) rfl, RR.get 4 (.int .i64 y.pg) rfl, RR.get 5 (.int .i64 y.lv) rfl, RR.get 6 (.int .i64 y.fr) rfl, RR.get 7 (.int .i64 y.mi) rfl, RR.get 8 (.bool y.t.r) rfl, RR.get 9 (.bool y.t.w) rfl, RR.get 10 (.bool y.t.x) rfl, RR.get 11 (.bool y.t.a) rfl, RR.get 12 (.bool y.t.n) rfl, RR.get 13 (.int .i64 y.t.s) rfl]) rfl ?_
        exact ⟨by rw [← HR.out]; rfl, (Below.rowB (g := g1 + 1 + 1) Br.out (cs := #[.int .i64 y.k, .int .i64 y.vm, .int .i64 y.sp, .bool y.al, .int .i64 y.pg, .int .i64 y.lv, .int .i64 y.fr, .int .i64 y.mi, .bool y.t.r, .bool y.t.w, .bool y.t.x, .bool y.t.a, .bool y.t.n, .int .i64 y.t.s]) (show w.heap.size ≤ g1 + 1 + 1 by omega))⟩
      have ey : (y.lv == 0) = true := (beq_int _ _).trans qy
      have HR := Lib.hid (show (ent0, 3) = q from by rw [← HP.out, if_pos (of_decide_eq_true qy)])
      clear qy
      go_wp2_with (refine wpList_storeB rfl 36 _ _ rfl (g1 + 1 + 1) #[.int .i64 0, .int .i64 0, .int .i64 0, .bool false, .int .i64 0, .int .i64 0, .int .i64 0, .int .i64 0, .bool false, .bool false, .bool false, .bool false, .bool false, .int .i64 0] _ 36 rfl rfl (by kernel_rfl) (by rfl) (by simp [Value.oneCell']) Rr.out ?_)
      have RR := (Rr.out.put (cs' := #[.int .i64 0, .int .i64 0, .int .i64 0, .bool false, .int .i64 0, .int .i64 0, .int .i64 0, .int .i64 0, .bool false, .bool false, .bool false, .bool false, .bool false, .int .i64 0]))
      refine bodyPost_ret (v := .tuple #[.agg #[.int .i64 0, .int .i64 0, .int .i64 0, .bool false, .int .i64 0, .int .i64 0, .int .i64 0, .int .i64 0, .bool false, .bool false, .bool false, .bool false, .bool false, .int .i64 0], .int .i64 3]) (by simp [results, Try.results80, go_sem, RR.get 0 (.int .i64 0) rfl, RR.get 1 (.int .i64 0) rfl, RR.get 2 (.int .i64 0) rfl, RR.get 3 (.bool false) rfl, RR.get 4 (.int .i64 0) rfl, RR.get 5 (.int .i64 0) rfl, RR.get 6 (.int .i64 0) rfl, RR.get 7 (.int .i64 0) rfl, RR.get 8 (.bool false) rfl, RR.get 9 (.bool false) rfl, RR.get 10 (.bool false) rfl, RR.get 11 (.bool false) rfl, RR.get 12 (.bool false) rfl, RR.get 13 (.int .i64 0) rfl]) rfl ?_
      exact ⟨by rw [← HR.out]; rfl, (Below.rowB (g := g1 + 1 + 1) Br.out (cs := #[.int .i64 0, .int .i64 0, .int .i64 0, .bool false, .int .i64 0, .int .i64 0, .int .i64 0, .int .i64 0, .bool false, .bool false, .bool false, .bool false, .bool false, .int .i64 0]) (show w.heap.size ≤ g1 + 1 + 1 by omega))⟩
end Go.Proofs.Ytjohnpbfdpmajaa
