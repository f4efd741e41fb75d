/- The reference's Check of a TLB: contract. -/
import Derived.Test.YtmelepohdbojlaaGreatBg
import Derived.Test.YtmelepohdbojlaaGreatSq
set_option linter.all false
namespace Go.Proofs.YtmelepohdbojlaaGreat
open Go.ChangeShapes Go.WideShapes Go.ChangeAt Go.RowKit Go.Deep
def allF (E : List Ety) : List Ety → Int → Bool
 | [], _ => true
 | x :: L, k => mayEn x && (decide (inE E x = k) && allF E L (k + 1))
def allV : List Inv → Bool
 | [] => true
 | x :: D => mayIn x && allV D
def mayT (E : List Ety) (D : List Inv) : Bool := allF E E 0 && (allV D && (decide (E.length ≤ 8) && decide (D.length ≤ 8)))
set_option maxRecDepth 100000 in
set_option maxHeartbeats 3200000 in
theorem mayT_any (f g : Option Addr) (l c m d : Nat) (E : List Ety) (D : List Inv) (w : World) (hL : RowsAt KE w f E) (hn : l = E.length) (hD : RowsAt KI w g D) (ho : m = D.length) (hl : l ≤ 1000000) (hm : m ≤ 1000000) :
  Calls Tryz.prog 23 #[.agg #[.slice f l c, .slice g m d]] w fun r w' => r = .returned (.bool (mayT E D)) ∧ Below w.heap.size w w' := by
 unfold mayT
 rw [← hn, ← ho]
 have HL := Lib.hid hL
 have HN := Lib.hid hn
 have HD := Lib.hid hD
 have HO := Lib.hid ho
 clear hL hn hD ho
 obtain ⟨qa, hqa⟩ : ∃ q, q = allF E E 0 := ⟨_, rfl⟩
 rw [← hqa]
 have HQ := Lib.hid (show allF E (E.drop 0) ((0 : Nat) : Int) = qa from hqa.symm)
 clear hqa
 obtain ⟨qb, hqb⟩ : ∃ q, q = allV D := ⟨_, rfl⟩
 have HP0 := Lib.hid (show allV (D.drop 0) = qb from hqb.symm)
 rw [← hqb]
 have HP := Lib.hid HP0.out
 clear HP0 hqb
 have htw : w.heap.size ≤ w.heap.size := Nat.le_refl _
 have B0 := Lib.hid (Below.refl w.heap.size w)
 go_enter Tryz.func23, Tryz.ntmps23
 go_upto_region 1 with fail
 have T1 := Lib.hid ((BoxAt.newAt (w) #[.slice f l c, .slice g m d] 35 (w.heap.size) (by first | omega | (simp; done) | (simp; omega))))
 have B1 := Lib.hid ((bel_alloc B0.out (.cells #[.slice f l c, .slice g m d] 35)))
 obtain ⟨g1, hg1⟩ : ∃ g1, g1 = w.heap.size := ⟨_, rfl⟩
 obtain ⟨W1, hW1⟩ : ∃ W1, W1 = (w).alloc (.cells #[.slice f l c, .slice g m d] 35) := ⟨_, rfl⟩
 have hs1 : g1 + 1 ≤ W1.heap.size := by rw [hW1, hg1]; simp
 rw [← hW1] at T1 B1 ⊢
 have hb1 : w.heap.size ≤ g1 := by omega
 rw [← hg1] at T1 ⊢
 clear hg1
 clear hW1 B0
 go_wp2
 go_loopw [3] (fun i wr => ∃ k : Nat, k ≤ l ∧ i = .int .i64 k ∧ Hid (BoxAt wr (g1) #[.slice f l c, .slice g m d] 35) ∧ Hid (Below w.heap.size w wr) ∧ Hid (allF E (E.drop k) k = qa)) (fun i _ => l - (intOf i).toNat)
 case atStart => exact ⟨0, Nat.zero_le _, rfl, T1.out, B1.out, HQ⟩
 case round =>
  clear B1 T1 HQ
  obtain ⟨k, hk, rfl, Tr, Br, HQ⟩ := hrel
  have hsr : g1 + 1 ≤ wr.heap.size := Tr.out.lt
  by_cases hlt : k < l
  ·obtain ⟨x, hx⟩ := rows_some HN.out hlt
   have HL2 := HL
   obtain ⟨b, o, rfl, hr0⟩ := HL.out k x hx
   have HRX := Lib.hid (show RowAt w b (o + k * 14) 14 #[.int .i64 x.k, .int .i64 x.vm, .int .i64 x.sp, .bool x.al, .int .i64 x.pg, .int .i64 x.lv, .int .i64 x.fr, .int .i64 x.mi, .bool x.t.r, .bool x.t.w, .bool x.t.x, .bool x.t.a, .bool x.t.n, .int .i64 x.t.s] from hr0)
   have hbk : b < w.heap.size := hr0.lt
   clear hr0
   have i1 : (0 : Int) ≤ (k : Int) := by omega
   have i2 : (k : Int) < (l : Int) := by omega
   have hxd := rows_drop hx
   have HX := Lib.hid hxd
   clear hx hxd
   have HEN := Lib.hid (fun W => entry9_any x W)
   obtain ⟨o1, ho1⟩ : ∃ o1, o1 = mayEn x := ⟨_, rfl⟩
   rw [← ho1] at HEN
   have ho1h := Lib.hid ho1
   clear ho1
   have HIN := Lib.hid (fun W (hB : Below w.heap.size w W) => in9_any (some ⟨b, o, none⟩) l c E x W (HL2.out.below hB) HN.out hl)
   obtain ⟨n1, hn1⟩ : ∃ n1, n1 = inE E x := ⟨_, rfl⟩
   rw [← hn1] at HIN
   have hn1h := Lib.hid hn1
   clear hn1
   unfold entV entC at HEN HIN
   cases o1
   ·have HR := Lib.hid (show false = (qa && (qb && (decide (l ≤ 8) && decide (m ≤ 8)))) from by rw [← HQ.out, HX.out]; simp [allF, ho1h.out.symm])
    clear HQ HIN
    have Tc0 := Tr.out.get 0 (.slice (some ⟨b, o, none⟩) l c) rfl
    go_upto_region 4 with fail
    clear Tc0
    refine wp_region_held_drew (S := (fun w' => BoxAt w' (g1) #[.slice (some ⟨b, o, none⟩) l c, .slice g m d] 35 ∧ RowAt w' (b) (o + k * 14) 14 #[.int .i64 x.k, .int .i64 x.vm, .int .i64 x.sp, .bool x.al, .int .i64 x.pg, .int .i64 x.lv, .int .i64 x.fr, .int .i64 x.mi, .bool x.t.r, .bool x.t.w, .bool x.t.x, .bool x.t.a, .bool x.t.n, .int .i64 x.t.s])) (by kernel_rfl) ⟨Tr.out.drew, (HRX.out.below Br.out).drew⟩ (fun hS => ?_)
    refine tkR 0 12 (v := .pointer (some ⟨g1, 0, none⟩)) rfl hS (fun _ _ => by kernel_rfl) ?_
    refine tkR 1 13 (v := .slice (some ⟨b, o, none⟩) l c) rfl hS (fun _ h => run_ld1 32 (.tmp 12) g1 0 (by kernel_rfl) (by kernel_rfl) Tryz.underlying32 rfl ((h.1).get 0 (.slice (some ⟨b, o, none⟩) l c) rfl)) ?_
    refine tkR 2 14 (v := .int .i64 k) rfl hS (fun _ _ => by kernel_rfl) ?_
    refine tkR 3 15 (v := .pointer (some ⟨b, o + k * 14, none⟩)) rfl hS (fun _ _ => run_ixN 32 89 (.tmp 13) (.tmp 14) b o l c k 14 (by kernel_rfl) (by kernel_rfl) (by kernel_rfl) Tryz.underlying32 (by kernel_rfl) hlt) ?_
    refine tkR 4 16 (v := .agg #[.int .i64 x.k, .int .i64 x.vm, .int .i64 x.sp, .bool x.al, .int .i64 x.pg, .int .i64 x.lv, .int .i64 x.fr, .int .i64 x.mi, .bool x.t.r, .bool x.t.w, .bool x.t.x, .bool x.t.a, .bool x.t.n, .int .i64 x.t.s]) rfl hS (fun _ h => run_ldN 89 (.tmp 15) b (o + k * 14) (by kernel_rfl) (by kernel_rfl) Tryz.underlying89 rfl (by kernel_rfl) ((h.2).sub 0 _ rfl (Nat.le_of_ble_eq_true rfl))) ?_
    try simp only [Act.put, List.setIfInBounds_toArray, List.set_cons_zero, List.set_cons_succ]
    refine wpAnyH_ready (rs := [5]) (by kernel_rfl) (by simp) ?_
    refine AllReadyH.cons (o := ⟨some 17, _, _, _, _, _⟩) rfl (fun K hK => ?_) AllReadyH.nil
    go_simp
    refine (HEN.out _).mono ?_
    rintro e w2 ⟨rfl, hb2⟩
    have hz2 := hb2.size
    try simp at hz2
    refine hK.out _ _ ?_ (fun hS' => ?_)
    ·exact ⟨hS.1.below hb2, hS.2.below hb2⟩
    clear hK K hS
    have hS := hS'
    clear hS'
    try simp only [Act.put, List.setIfInBounds_toArray, List.set_cons_zero, List.set_cons_succ]
    try simp only [Act.put, List.setIfInBounds_toArray, List.set_cons_zero, List.set_cons_succ]
    refine tkR 6 18 rfl hS (fun w' _ => by go_simp; try with_reducible rfl) ?_
    simp only [pA, pB, pC]
    refine tkR 7 19 (v := .bool true) rfl hS (fun _ _ => by kernel_rfl) ?_
    refine tkU 8 20 rfl hS ?_
    simp only [pA, pB, pC]
    refine tkU 9 21 rfl hS ?_
    simp only [pA, pB, pC]
    refine tkU 10 22 rfl hS ?_
    simp only [pA, pB, pC]
    refine tkU 11 23 rfl hS ?_
    simp only [pA, pB, pC]
    refine tkU 12 24 rfl hS ?_
    simp only [pA, pB, pC]
    refine tkU 13 25 rfl hS ?_
    simp only [pA, pB, pC]
    refine tkU 14 26 rfl hS ?_
    simp only [pA, pB, pC]
    refine tkU 15 27 rfl hS ?_
    simp only [pA, pB, pC]
    refine tkU 16 28 rfl hS ?_
    simp only [pA, pB, pC]
    refine tkU 17 29 rfl hS ?_
    simp only [pA, pB, pC]
    try simp only [Act.put, List.setIfInBounds_toArray, List.set_cons_zero, List.set_cons_succ]
    refine tkR 18 30 rfl hS (fun w' _ => by go_simp; try with_reducible rfl) ?_
    simp only [pA, pB, pC]
    refine wpAnyH_done (by kernel_rfl) ?_ _
    try simp only [Act.put, List.setIfInBounds_toArray, List.set_cons_zero, List.set_cons_succ]
    have T3 := Lib.hid (((Tr.out.drew).below hb2))
    have B3 := Lib.hid ((bel_trans (Below.drew Br.out) hb2))
    obtain ⟨W3, hW3⟩ : ∃ W3, W3 = w2 := ⟨_, rfl⟩
    have hs3 : g1 + 1 ≤ W3.heap.size := by rw [hW3]; first | exact hsr | omega | (simp; omega)
    rw [← hW3] at T3 B3 ⊢
    clear hW3 Tr Br hsr
    go_wp2
    go_ret
    exact ⟨ret_bool HR.out, B3.out⟩
   by_cases hn2 : n1 = (k : Int)
   rotate_left
   ·have hz1 : ((n1 : Int) != (k : Int)) = true := by simp; exact hn2
    have HR := Lib.hid (show false = (qa && (qb && (decide (l ≤ 8) && decide (m ≤ 8)))) from by rw [← HQ.out, HX.out]; simp [allF, ← hn1h.out, hn2])
    clear HQ hn2
    have Tc0 := Tr.out.get 0 (.slice (some ⟨b, o, none⟩) l c) rfl
    go_upto_region 4 with fail
    clear Tc0
    refine wp_region_held_drew (S := (fun w' => BoxAt w' (g1) #[.slice (some ⟨b, o, none⟩) l c, .slice g m d] 35 ∧ RowAt w' (b) (o + k * 14) 14 #[.int .i64 x.k, .int .i64 x.vm, .int .i64 x.sp, .bool x.al, .int .i64 x.pg, .int .i64 x.lv, .int .i64 x.fr, .int .i64 x.mi, .bool x.t.r, .bool x.t.w, .bool x.t.x, .bool x.t.a, .bool x.t.n, .int .i64 x.t.s])) (by kernel_rfl) ⟨Tr.out.drew, (HRX.out.below Br.out).drew⟩ (fun hS => ?_)
    refine tkR 0 12 (v := .pointer (some ⟨g1, 0, none⟩)) rfl hS (fun _ _ => by kernel_rfl) ?_
    refine tkR 1 13 (v := .slice (some ⟨b, o, none⟩) l c) rfl hS (fun _ h => run_ld1 32 (.tmp 12) g1 0 (by kernel_rfl) (by kernel_rfl) Tryz.underlying32 rfl ((h.1).get 0 (.slice (some ⟨b, o, none⟩) l c) rfl)) ?_
    refine tkR 2 14 (v := .int .i64 k) rfl hS (fun _ _ => by kernel_rfl) ?_
    refine tkR 3 15 (v := .pointer (some ⟨b, o + k * 14, none⟩)) rfl hS (fun _ _ => run_ixN 32 89 (.tmp 13) (.tmp 14) b o l c k 14 (by kernel_rfl) (by kernel_rfl) (by kernel_rfl) Tryz.underlying32 (by kernel_rfl) hlt) ?_
    refine tkR 4 16 (v := .agg #[.int .i64 x.k, .int .i64 x.vm, .int .i64 x.sp, .bool x.al, .int .i64 x.pg, .int .i64 x.lv, .int .i64 x.fr, .int .i64 x.mi, .bool x.t.r, .bool x.t.w, .bool x.t.x, .bool x.t.a, .bool x.t.n, .int .i64 x.t.s]) rfl hS (fun _ h => run_ldN 89 (.tmp 15) b (o + k * 14) (by kernel_rfl) (by kernel_rfl) Tryz.underlying89 rfl (by kernel_rfl) ((h.2).sub 0 _ rfl (Nat.le_of_ble_eq_true rfl))) ?_
    try simp only [Act.put, List.setIfInBounds_toArray, List.set_cons_zero, List.set_cons_succ]
    refine wpAnyH_ready (rs := [5]) (by kernel_rfl) (by simp) ?_
    refine AllReadyH.cons (o := ⟨some 17, _, _, _, _, _⟩) rfl (fun K hK => ?_) AllReadyH.nil
    go_simp
    refine (HEN.out _).mono ?_
    rintro e w2 ⟨rfl, hb2⟩
    have hz2 := hb2.size
    try simp at hz2
    refine hK.out _ _ ?_ (fun hS' => ?_)
    ·exact ⟨hS.1.below hb2, hS.2.below hb2⟩
    clear hK K hS
    have hS := hS'
    clear hS'
    try simp only [Act.put, List.setIfInBounds_toArray, List.set_cons_zero, List.set_cons_succ]
    try simp only [Act.put, List.setIfInBounds_toArray, List.set_cons_zero, List.set_cons_succ]
    refine tkR 6 18 rfl hS (fun w' _ => by go_simp; try with_reducible rfl) ?_
    simp only [pA, pB, pC]
    refine tkR 7 19 (v := .bool false) rfl hS (fun _ _ => by kernel_rfl) ?_
    try simp only [Act.put, List.setIfInBounds_toArray, List.set_cons_zero, List.set_cons_succ]
    refine tkR 8 20 rfl hS (fun w' _ => by go_simp; try with_reducible rfl) ?_
    simp only [pA, pB, pC]
    try simp only [Act.put, List.setIfInBounds_toArray, List.set_cons_zero, List.set_cons_succ]
    refine tkR 9 21 rfl hS (fun w' hSw => by have c0_0 := (hSw.1).get 0 (.slice (some ⟨b, o, none⟩) l c) rfl; clear hSw; go_simp; try with_reducible rfl) ?_
    simp only [pA, pB, pC]
    try simp only [Act.put, List.setIfInBounds_toArray, List.set_cons_zero, List.set_cons_succ]
    refine tkR 10 22 rfl hS (fun w' _ => by go_simp; try with_reducible rfl) ?_
    simp only [pA, pB, pC]
    try simp only [Act.put, List.setIfInBounds_toArray, List.set_cons_zero, List.set_cons_succ]
    refine tkR 11 23 rfl hS (fun w' hSw => by have c0_0 := (hSw.1).get 0 (.slice (some ⟨b, o, none⟩) l c) rfl; clear hSw; go_simp; try with_reducible rfl) ?_
    simp only [pA, pB, pC]
    try simp only [Act.put, List.setIfInBounds_toArray, List.set_cons_zero, List.set_cons_succ]
    refine tkR 12 24 rfl hS (fun w' _ => by go_simp; try with_reducible rfl) ?_
    simp only [pA, pB, pC]
    try simp only [Act.put, List.setIfInBounds_toArray, List.set_cons_zero, List.set_cons_succ]
    refine tkR 13 25 rfl hS (fun w' _ => by go_simp; try with_reducible rfl) ?_
    simp only [pA, pB, pC]
    try simp only [Act.put, List.setIfInBounds_toArray, List.set_cons_zero, List.set_cons_succ]
    refine tkR 14 26 rfl hS (fun w' hSw => by have c1_0 := (hSw.2).get0 (.int .i64 x.k) (by decide) rfl; have c1_1 := (hSw.2).get 1 (.int .i64 x.vm) (by decide) rfl; have c1_2 := (hSw.2).get 2 (.int .i64 x.sp) (by decide) rfl; have c1_3 := (hSw.2).get 3 (.bool x.al) (by decide) rfl; have c1_4 := (hSw.2).get 4 (.int .i64 x.pg) (by decide) rfl; have c1_5 := (hSw.2).get 5 (.int .i64 x.lv) (by decide) rfl; have c1_6 := (hSw.2).get 6 (.int .i64 x.fr) (by decide) rfl; have c1_7 := (hSw.2).get 7 (.int .i64 x.mi) (by decide) rfl; have c1_8 := (hSw.2).get 8 (.bool x.t.r) (by decide) rfl; have c1_9 := (hSw.2).get 9 (.bool x.t.w) (by decide) rfl; have c1_10 := (hSw.2).get 10 (.bool x.t.x) (by decide) rfl; have c1_11 := (hSw.2).get 11 (.bool x.t.a) (by decide) rfl; have c1_12 := (hSw.2).get 12 (.bool x.t.n) (by decide) rfl; have c1_13 := (hSw.2).get 13 (.int .i64 x.t.s) (by decide) rfl; clear hSw; go_simp; try with_reducible rfl) ?_
    simp only [pA, pB, pC]
    try simp only [Act.put, List.setIfInBounds_toArray, List.set_cons_zero, List.set_cons_succ]
    refine tkR 16 28 rfl hS (fun w' _ => by go_simp; try with_reducible rfl) ?_
    simp only [pA, pB, pC]
    try simp only [Act.put, List.setIfInBounds_toArray, List.set_cons_zero, List.set_cons_succ]
    refine wpAnyH_ready (rs := [15]) (by kernel_rfl) (by simp) ?_
    refine AllReadyH.cons (o := ⟨some 27, _, _, _, _, _⟩) rfl (fun K hK => ?_) AllReadyH.nil
    go_simp
    refine (HIN.out _ (bel_trans (Below.drew Br.out) hb2)).mono ?_
    rintro e w3 ⟨rfl, hb3⟩
    have hz3 := hb3.size
    try simp at hz3
    refine hK.out _ _ ?_ (fun hS' => ?_)
    ·exact ⟨hS.1.below hb3, hS.2.below hb3⟩
    clear hK K hS
    have hS := hS'
    clear hS'
    try simp only [Act.put, List.setIfInBounds_toArray, List.set_cons_zero, List.set_cons_succ]
    try simp only [Act.put, List.setIfInBounds_toArray, List.set_cons_zero, List.set_cons_succ]
    refine tkR 17 29 rfl hS (fun w' _ => by go_simp; try with_reducible rfl) ?_
    simp only [pA, pB, pC]
    try simp only [Act.put, List.setIfInBounds_toArray, List.set_cons_zero, List.set_cons_succ]
    refine tkR 18 30 rfl hS (fun w' _ => by go_simp; try with_reducible rfl) ?_
    simp only [pA, pB, pC]
    refine wpAnyH_done (by kernel_rfl) ?_ _
    try simp only [Act.put, List.setIfInBounds_toArray, List.set_cons_zero, List.set_cons_succ]
    have T4 := Lib.hid ((((Tr.out.drew).below hb2).below hb3))
    have B4 := Lib.hid ((bel_trans (bel_trans (Below.drew Br.out) hb2) hb3))
    obtain ⟨W4, hW4⟩ : ∃ W4, W4 = w3 := ⟨_, rfl⟩
    have hs4 : g1 + 1 ≤ W4.heap.size := by rw [hW4]; first | exact hsr | omega | (simp; omega)
    rw [← hW4] at T4 B4 ⊢
    clear hW4 Tr Br hsr
    go_wp2
    go_ret
    exact ⟨ret_bool HR.out, B4.out⟩
   have hz1 : ((n1 : Int) != (k : Int)) = false := by simp; exact hn2
   have HQ := Lib.hid (show allF E (E.drop (k + 1)) ((k + 1 : Nat) : Int) = qa from by rw [← HQ.out, HX.out]; simp [allF, ho1h.out.symm, ← hn1h.out, hn2])
   clear hn2
   have Tc0 := Tr.out.get 0 (.slice (some ⟨b, o, none⟩) l c) rfl
   go_upto_region 4 with fail
   clear Tc0
   refine wp_region_held_drew (S := (fun w' => BoxAt w' (g1) #[.slice (some ⟨b, o, none⟩) l c, .slice g m d] 35 ∧ RowAt w' (b) (o + k * 14) 14 #[.int .i64 x.k, .int .i64 x.vm, .int .i64 x.sp, .bool x.al, .int .i64 x.pg, .int .i64 x.lv, .int .i64 x.fr, .int .i64 x.mi, .bool x.t.r, .bool x.t.w, .bool x.t.x, .bool x.t.a, .bool x.t.n, .int .i64 x.t.s])) (by kernel_rfl) ⟨Tr.out.drew, (HRX.out.below Br.out).drew⟩ (fun hS => ?_)
   refine tkR 0 12 (v := .pointer (some ⟨g1, 0, none⟩)) rfl hS (fun _ _ => by kernel_rfl) ?_
   refine tkR 1 13 (v := .slice (some ⟨b, o, none⟩) l c) rfl hS (fun _ h => run_ld1 32 (.tmp 12) g1 0 (by kernel_rfl) (by kernel_rfl) Tryz.underlying32 rfl ((h.1).get 0 (.slice (some ⟨b, o, none⟩) l c) rfl)) ?_
   refine tkR 2 14 (v := .int .i64 k) rfl hS (fun _ _ => by kernel_rfl) ?_
   refine tkR 3 15 (v := .pointer (some ⟨b, o + k * 14, none⟩)) rfl hS (fun _ _ => run_ixN 32 89 (.tmp 13) (.tmp 14) b o l c k 14 (by kernel_rfl) (by kernel_rfl) (by kernel_rfl) Tryz.underlying32 (by kernel_rfl) hlt) ?_
   refine tkR 4 16 (v := .agg #[.int .i64 x.k, .int .i64 x.vm, .int .i64 x.sp, .bool x.al, .int .i64 x.pg, .int .i64 x.lv, .int .i64 x.fr, .int .i64 x.mi, .bool x.t.r, .bool x.t.w, .bool x.t.x, .bool x.t.a, .bool x.t.n, .int .i64 x.t.s]) rfl hS (fun _ h => run_ldN 89 (.tmp 15) b (o + k * 14) (by kernel_rfl) (by kernel_rfl) Tryz.underlying89 rfl (by kernel_rfl) ((h.2).sub 0 _ rfl (Nat.le_of_ble_eq_true rfl))) ?_
   try simp only [Act.put, List.setIfInBounds_toArray, List.set_cons_zero, List.set_cons_succ]
   refine wpAnyH_ready (rs := [5]) (by kernel_rfl) (by simp) ?_
   refine AllReadyH.cons (o := ⟨some 17, _, _, _, _, _⟩) rfl (fun K hK => ?_) AllReadyH.nil
   go_simp
   refine (HEN.out _).mono ?_
   rintro e w2 ⟨rfl, hb2⟩
   have hz2 := hb2.size
   try simp at hz2
   refine hK.out _ _ ?_ (fun hS' => ?_)
   ·exact ⟨hS.1.below hb2, hS.2.below hb2⟩
   clear hK K hS
   have hS := hS'
   clear hS'
   try simp only [Act.put, List.setIfInBounds_toArray, List.set_cons_zero, List.set_cons_succ]
   try simp only [Act.put, List.setIfInBounds_toArray, List.set_cons_zero, List.set_cons_succ]
   refine tkR 6 18 rfl hS (fun w' _ => by go_simp; try with_reducible rfl) ?_
   simp only [pA, pB, pC]
   refine tkR 7 19 (v := .bool false) rfl hS (fun _ _ => by kernel_rfl) ?_
   try simp only [Act.put, List.setIfInBounds_toArray, List.set_cons_zero, List.set_cons_succ]
   refine tkR 8 20 rfl hS (fun w' _ => by go_simp; try with_reducible rfl) ?_
   simp only [pA, pB, pC]
   try simp only [Act.put, List.setIfInBounds_toArray, List.set_cons_zero, List.set_cons_succ]
   refine tkR 9 21 rfl hS (fun w' hSw => by have c0_0 := (hSw.1).get 0 (.slice (some ⟨b, o, none⟩) l c) rfl; clear hSw; go_simp; try with_reducible rfl) ?_
   simp only [pA, pB, pC]
   try simp only [Act.put, List.setIfInBounds_toArray, List.set_cons_zero, List.set_cons_succ]
   refine tkR 10 22 rfl hS (fun w' _ => by go_simp; try with_reducible rfl) ?_
   simp only [pA, pB, pC]
   try simp only [Act.put, List.setIfInBounds_toArray, List.set_cons_zero, List.set_cons_succ]
   refine tkR 11 23 rfl hS (fun w' hSw => by have c0_0 := (hSw.1).get 0 (.slice (some ⟨b, o, none⟩) l c) rfl; clear hSw; go_simp; try with_reducible rfl) ?_
   simp only [pA, pB, pC]
   try simp only [Act.put, List.setIfInBounds_toArray, List.set_cons_zero, List.set_cons_succ]
   refine tkR 12 24 rfl hS (fun w' _ => by go_simp; try with_reducible rfl) ?_
   simp only [pA, pB, pC]
   try simp only [Act.put, List.setIfInBounds_toArray, List.set_cons_zero, List.set_cons_succ]
   refine tkR 13 25 rfl hS (fun w' _ => by go_simp; try with_reducible rfl) ?_
   simp only [pA, pB, pC]
   try simp only [Act.put, List.setIfInBounds_toArray, List.set_cons_zero, List.set_cons_succ]
   refine tkR 14 26 rfl hS (fun w' hSw => by have c1_0 := (hSw.2).get0 (.int .i64 x.k) (by decide) rfl; have c1_1 := (hSw.2).get 1 (.int .i64 x.vm) (by decide) rfl; have c1_2 := (hSw.2).get 2 (.int .i64 x.sp) (by decide) rfl; have c1_3 := (hSw.2).get 3 (.bool x.al) (by decide) rfl; have c1_4 := (hSw.2).get 4 (.int .i64 x.pg) (by decide) rfl; have c1_5 := (hSw.2).get 5 (.int .i64 x.lv) (by decide) rfl; have c1_6 := (hSw.2).get 6 (.int .i64 x.fr) (by decide) rfl; have c1_7 := (hSw.2).get 7 (.int .i64 x.mi) (by decide) rfl; have c1_8 := (hSw.2).get 8 (.bool x.t.r) (by decide) rfl; have c1_9 := (hSw.2).get 9 (.bool x.t.w) (by decide) rfl; have c1_10 := (hSw.2).get 10 (.bool x.t.x) (by decide) rfl; have c1_11 := (hSw.2).get 11 (.bool x.t.a) (by decide) rfl; have c1_12 := (hSw.2).get 12 (.bool x.t.n) (by decide) rfl; have c1_13 := (hSw.2).get 13 (.int .i64 x.t.s) (by decide) rfl; clear hSw; go_simp; try with_reducible rfl) ?_
   simp only [pA, pB, pC]
   try simp only [Act.put, List.setIfInBounds_toArray, List.set_cons_zero, List.set_cons_succ]
   refine tkR 16 28 rfl hS (fun w' _ => by go_simp; try with_reducible rfl) ?_
   simp only [pA, pB, pC]
   try simp only [Act.put, List.setIfInBounds_toArray, List.set_cons_zero, List.set_cons_succ]
   refine wpAnyH_ready (rs := [15]) (by kernel_rfl) (by simp) ?_
   refine AllReadyH.cons (o := ⟨some 27, _, _, _, _, _⟩) rfl (fun K hK => ?_) AllReadyH.nil
   go_simp
   refine (HIN.out _ (bel_trans (Below.drew Br.out) hb2)).mono ?_
   rintro e w3 ⟨rfl, hb3⟩
   have hz3 := hb3.size
   try simp at hz3
   refine hK.out _ _ ?_ (fun hS' => ?_)
   ·exact ⟨hS.1.below hb3, hS.2.below hb3⟩
   clear hK K hS
   have hS := hS'
   clear hS'
   try simp only [Act.put, List.setIfInBounds_toArray, List.set_cons_zero, List.set_cons_succ]
   try simp only [Act.put, List.setIfInBounds_toArray, List.set_cons_zero, List.set_cons_succ]
   refine tkR 17 29 rfl hS (fun w' _ => by go_simp; try with_reducible rfl) ?_
   simp only [pA, pB, pC]
   try simp only [Act.put, List.setIfInBounds_toArray, List.set_cons_zero, List.set_cons_succ]
   refine tkR 18 30 rfl hS (fun w' _ => by go_simp; try with_reducible rfl) ?_
   simp only [pA, pB, pC]
   refine wpAnyH_done (by kernel_rfl) ?_ _
   try simp only [Act.put, List.setIfInBounds_toArray, List.set_cons_zero, List.set_cons_succ]
   have T4 := Lib.hid ((((Tr.out.drew).below hb2).below hb3))
   have B4 := Lib.hid ((bel_trans (bel_trans (Below.drew Br.out) hb2) hb3))
   obtain ⟨W4, hW4⟩ : ∃ W4, W4 = w3 := ⟨_, rfl⟩
   have hs4 : g1 + 1 ≤ W4.heap.size := by rw [hW4]; first | exact hsr | omega | (simp; omega)
   rw [← hW4] at T4 B4 ⊢
   clear hW4 Tr Br hsr
   go_wp2
   go_roundw
   case rel => exact ⟨k + 1, by omega, by go_num, T4.out, B4.out, HQ⟩
   case measure => simp [intOf]; omega
  ·have HQ2 := HQ.out
   rw [rows_end HN.out hlt] at HQ2
   simp only [allF] at HQ2
   subst HQ2
   clear HQ
   have Tc0 := Tr.out.get 0 (.slice f l c) rfl
   go_wp2
   clear Tc0
   go_loopw [4] (fun i wr => ∃ k : Nat, k ≤ m ∧ i = .int .i64 k ∧ Hid (BoxAt wr (g1) #[.slice f l c, .slice g m d] 35) ∧ Hid (Below w.heap.size w wr) ∧ Hid (allV (D.drop k) = qb)) (fun i _ => m - (intOf i).toNat)
   case atStart => exact ⟨0, Nat.zero_le _, rfl, Tr.out, Br.out, HP⟩
   case round =>
    clear Br Tr HP
    obtain ⟨k2, hk2, rfl, Tr, Br, HP⟩ := hrel
    have hsr2 : g1 + 1 ≤ wr.heap.size := Tr.out.lt
    by_cases hlt2 : k2 < m
    ·obtain ⟨x, hx⟩ := rows_some HO.out hlt2
     obtain ⟨b, o, rfl, hr0⟩ := HD.out k2 x hx
     have HRX := Lib.hid (show RowAt w b (o + k2 * 4) 4 #[.int .i64 x.k, .int .i64 x.vm, .int .i64 x.sp, .int .i64 x.pg] from hr0)
     have hbk : b < w.heap.size := hr0.lt
     clear hr0
     have i1 : (0 : Int) ≤ (k2 : Int) := by omega
     have i2 : (k2 : Int) < (m : Int) := by omega
     have hxd := rows_drop hx
     have HX := Lib.hid hxd
     clear hx hxd
     have HEN := Lib.hid (fun W => inval9_any x W)
     obtain ⟨o1, ho1⟩ : ∃ o1, o1 = mayIn x := ⟨_, rfl⟩
     rw [← ho1] at HEN
     have ho1h := Lib.hid ho1
     clear ho1
     unfold invV invC at HEN
     have Tc1 := Tr.out.get 1 (.slice (some ⟨b, o, none⟩) m d) rfl
     have yX := (HRX.out.below Br.out)
     have yX0 := yX.get0 (.int .i64 x.k) (by decide) rfl
     have yX1 := yX.get 1 (.int .i64 x.vm) (by decide) rfl
     have yX2 := yX.get 2 (.int .i64 x.sp) (by decide) rfl
     have yX3 := yX.get 3 (.int .i64 x.pg) (by decide) rfl
     clear yX
     go_wp2_with fail
     refine (HEN.out _).mono ?_
     rintro e w2 ⟨rfl, hb2⟩
     have hz2 := hb2.size
     have T2 := Lib.hid (Tr.out.below hb2)
     have B2 := Lib.hid (bel_trans Br.out hb2)
     skip
     have hs2 : g1 + 1 ≤ w2.heap.size := by omega
     clear Tc1 yX0 yX1 yX2 yX3
     clear Tr Br hsr2 hb2 hz2
     cases o1
     ·have HR := Lib.hid (show false = (true && (qb && (decide (l ≤ 8) && decide (m ≤ 8)))) from by rw [← HP.out, HX.out]; simp [allV, ho1h.out.symm])
      go_wp2
      go_ret
      exact ⟨ret_bool HR.out, B2.out⟩
     have HP := Lib.hid (show allV (D.drop (k2 + 1)) = qb from by rw [← HP.out, HX.out]; simp [allV, ho1h.out.symm])
     go_wp2
     go_roundw
     case rel => exact ⟨k2 + 1, by omega, by go_num, T2.out, B2.out, HP⟩
     case measure => simp [intOf]; omega
    ·have HP2 := HP.out
     rw [rows_end HO.out hlt2] at HP2
     simp only [allV] at HP2
     subst HP2
     have Tc1 := Tr.out.get 1 (.slice g m d) rfl
     have Tc0 := Tr.out.get 0 (.slice f l c) rfl
     by_cases h8 : l ≤ 8
     ·have d8 : decide ((l : Int) ≤ 8) = true := decide_eq_true (by omega)
      go_wp2
      go_ret
      exact ⟨ret_bool (by first | (simp [h8]; done) | (simp [h8]; omega) | (rw [Bool.eq_iff_iff]; simp [h8]; omega)), Br.out⟩
     have d8 : decide ((l : Int) ≤ 8) = false := decide_eq_false (by omega)
     go_wp2
     go_ret
     exact ⟨ret_bool (by first | (simp [h8]; done) | (simp [h8]; omega) | (rw [Bool.eq_iff_iff]; simp [h8]; omega)), Br.out⟩
end Go.Proofs.YtmelepohdbojlaaGreat
