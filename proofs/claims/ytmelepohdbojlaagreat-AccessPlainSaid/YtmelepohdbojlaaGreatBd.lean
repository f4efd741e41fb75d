/- Rows of entries and of what takes away: compared, copied. -/
import Derived.Test.YtmelepohdbojlaaGreatBc
import Derived.Test.YtmelepohdbojlaaGreatSq
set_option linter.all false
namespace Go.Proofs.YtmelepohdbojlaaGreat
open Go.ChangeShapes Go.WideShapes Go.ChangeAt Go.RowKit Go.Deep
theorem take_len {α : Type} {R D L : List α} (h : R ++ D = L) : R.length ≤ L.length := by rw [← h]; simp
theorem take_next {α : Type} {R L : List α} {k : Nat} {x : α} (h : R ++ L.drop k = L) (hx : L[k]? = some x) : (R ++ [x]) ++ L.drop (k + 1) = L := by
 rw [List.append_assoc, List.singleton_append, ← rows_drop hx]
 exact h
set_option maxRecDepth 100000 in
set_option maxHeartbeats 3200000 in
theorem eqE_any (f g : Option Addr) (l c m d : Nat) (L M : List Ety) (w : World) (hL : RowsAt KE w f L) (hn : l = L.length) (hM : RowsAt KE w g M) (ho : m = M.length) (hl : l ≤ 1000000) :
  Calls Tryz.prog 40 #[.slice f l c, .slice g m d] w fun r w' => r = .returned (.bool (decide (L = M))) ∧ Below w.heap.size w w' := by
 have HL := Lib.hid hL
 have HN := Lib.hid hn
 have HM := Lib.hid hM
 have HO := Lib.hid ho
 clear hL hM
 by_cases hlm : l = m
 rotate_left
 ·have HF := Lib.hid (show false = decide (L = M) from by symm; rw [decide_eq_false_iff_not]; intro h; rw [h] at hn; omega)
  have d0 : ((l : Int) != (m : Int)) = true := by simp; omega
  clear hn ho
  have htw : w.heap.size ≤ w.heap.size := Nat.le_refl _
  have B0 := Lib.hid (Below.refl w.heap.size w)
  go_enter Tryz.func40, Tryz.ntmps40
  go_wp2
  go_ret
  exact ⟨ret_bool HF.out, B0.out⟩
 have HLM := Lib.hid hlm
 have d0 : ((l : Int) != (m : Int)) = false := by simp; omega
 clear hn ho hlm
 have htw : w.heap.size ≤ w.heap.size := Nat.le_refl _
 have B0 := Lib.hid (Below.refl w.heap.size w)
 go_enter Tryz.func40, Tryz.ntmps40
 go_wp2
 go_loopw [5] (fun i wr => ∃ k : Nat, k ≤ l ∧ i = .int .i64 k ∧ Hid (Below w.heap.size w wr) ∧ Hid (decide (L.drop k = M.drop k) = decide (L = M))) (fun i _ => l - (intOf i).toNat)
 case atStart => exact ⟨0, Nat.zero_le _, rfl, B0.out, Lib.hid rfl⟩
 case round =>
  obtain ⟨k, hk, rfl, Br, HQ⟩ := hrel
  clear B0
  have hsr : w.heap.size ≤ wr.heap.size := Br.out.size
  by_cases hlt : k < l
  ·obtain ⟨x, hx⟩ := rows_some HN.out hlt
   obtain ⟨y, hy⟩ := rows_some (HLM.out.trans HO.out) hlt
   obtain ⟨b, o, rfl, hr0⟩ := HL.out k x hx
   obtain ⟨b2, o2, rfl, hr1⟩ := HM.out k y hy
   have HRX := Lib.hid (show RowAt w b (o + k * 14) 14 #[.int .i64 x.k, .int .i64 x.vm, .int .i64 x.sp, .bool x.al, .int .i64 x.pg, .int .i64 x.lv, .int .i64 x.fr, .int .i64 x.mi, .bool x.t.r, .bool x.t.w, .bool x.t.x, .bool x.t.a, .bool x.t.n, .int .i64 x.t.s] from hr0)
   have HRY := Lib.hid (show RowAt w b2 (o2 + k * 14) 14 #[.int .i64 y.k, .int .i64 y.vm, .int .i64 y.sp, .bool y.al, .int .i64 y.pg, .int .i64 y.lv, .int .i64 y.fr, .int .i64 y.mi, .bool y.t.r, .bool y.t.w, .bool y.t.x, .bool y.t.a, .bool y.t.n, .int .i64 y.t.s] from hr1)
   have hbk : b < w.heap.size := hr0.lt
   have hbk2 : b2 < w.heap.size := hr1.lt
   clear hr0 hr1
   have i1 : (0 : Int) ≤ (k : Int) := by omega
   have i2 : (k : Int) < (l : Int) := by omega
   have i3 : (k : Int) < (m : Int) := by have := HLM.out; omega
   have hlm : k < m := by have := HLM.out; omega
   have HQ := HQ.out
   rw [rows_drop hx, rows_drop hy] at HQ
   cases hc : eqE x y
   ·have hne : ¬ x = y := by simpa [eqE] using hc
    have HQ := Lib.hid (show false = decide (L = M) from by rw [← HQ]; simp [hne])
    clear hx hy hne
    go_upto_region 6 with fail
    refine wp_region_held_drew (S := (fun w' => RowAt w' (b) (o + k * 14) 14 #[.int .i64 x.k, .int .i64 x.vm, .int .i64 x.sp, .bool x.al, .int .i64 x.pg, .int .i64 x.lv, .int .i64 x.fr, .int .i64 x.mi, .bool x.t.r, .bool x.t.w, .bool x.t.x, .bool x.t.a, .bool x.t.n, .int .i64 x.t.s] ∧ RowAt w' (b2) (o2 + k * 14) 14 #[.int .i64 y.k, .int .i64 y.vm, .int .i64 y.sp, .bool y.al, .int .i64 y.pg, .int .i64 y.lv, .int .i64 y.fr, .int .i64 y.mi, .bool y.t.r, .bool y.t.w, .bool y.t.x, .bool y.t.a, .bool y.t.n, .int .i64 y.t.s])) (by kernel_rfl) ⟨(HRX.out.below Br.out).drew, (HRY.out.below Br.out).drew⟩ (fun hS => ?_)
    refine tkR 0 17 (v := .slice (some ⟨b, o, none⟩) l c) rfl hS (fun _ _ => by kernel_rfl) ?_
    refine tkR 1 18 (v := .int .i64 k) rfl hS (fun _ _ => by kernel_rfl) ?_
    refine tkR 2 19 (v := .pointer (some ⟨b, o + k * 14, none⟩)) rfl hS (fun _ _ => run_ixN 32 89 (.tmp 17) (.tmp 18) b o l c k 14 (by kernel_rfl) (by kernel_rfl) (by kernel_rfl) Tryz.underlying32 (by kernel_rfl) hlt) ?_
    refine tkR 3 20 (v := .agg #[.int .i64 x.k, .int .i64 x.vm, .int .i64 x.sp, .bool x.al, .int .i64 x.pg, .int .i64 x.lv, .int .i64 x.fr, .int .i64 x.mi, .bool x.t.r, .bool x.t.w, .bool x.t.x, .bool x.t.a, .bool x.t.n, .int .i64 x.t.s]) rfl hS (fun _ h => run_ldN 89 (.tmp 19) b (o + k * 14) (by kernel_rfl) (by kernel_rfl) Tryz.underlying89 rfl (by kernel_rfl) ((h.1).sub 0 _ rfl (Nat.le_of_ble_eq_true rfl))) ?_
    refine tkR 4 21 (v := .slice (some ⟨b2, o2, none⟩) m d) rfl hS (fun _ _ => by kernel_rfl) ?_
    refine tkR 5 22 (v := .int .i64 k) rfl hS (fun _ _ => by kernel_rfl) ?_
    refine tkR 6 23 (v := .pointer (some ⟨b2, o2 + k * 14, none⟩)) rfl hS (fun _ _ => run_ixN 32 89 (.tmp 21) (.tmp 22) b2 o2 m d k 14 (by kernel_rfl) (by kernel_rfl) (by kernel_rfl) Tryz.underlying32 (by kernel_rfl) hlm) ?_
    refine tkR 7 24 (v := .agg #[.int .i64 y.k, .int .i64 y.vm, .int .i64 y.sp, .bool y.al, .int .i64 y.pg, .int .i64 y.lv, .int .i64 y.fr, .int .i64 y.mi, .bool y.t.r, .bool y.t.w, .bool y.t.x, .bool y.t.a, .bool y.t.n, .int .i64 y.t.s]) rfl hS (fun _ h => run_ldN 89 (.tmp 23) b2 (o2 + k * 14) (by kernel_rfl) (by kernel_rfl) Tryz.underlying89 rfl (by kernel_rfl) ((h.2).sub 0 _ rfl (Nat.le_of_ble_eq_true rfl))) ?_
    try simp only [Act.put, List.setIfInBounds_toArray, List.set_cons_zero, List.set_cons_succ]
    refine tkR 8 25 rfl hS (fun w' _ => by go_simp; try with_reducible rfl) ?_
    simp only [pA, pB, pC]
    refine wpAnyH_done (by kernel_rfl) ?_ _
    try simp only [Act.put, List.setIfInBounds_toArray, List.set_cons_zero, List.set_cons_succ]
    have B1 := Lib.hid ((Below.drew Br.out))
    obtain ⟨W1, hW1⟩ : ∃ W1, W1 = (wr).drew := ⟨_, rfl⟩
    have hs1 : w.heap.size ≤ W1.heap.size := by rw [hW1]; first | exact hsr | omega | (simp; omega)
    rw [← hW1] at B1 ⊢
    clear hW1 Br hsr
    go_wp2
    go_ret
    exact ⟨ret_bool HQ.out, B1.out⟩
   ·have he : x = y := by simpa [eqE] using hc
    have HQ := Lib.hid (show decide (L.drop (k + 1) = M.drop (k + 1)) = decide (L = M) from by rw [← HQ, he]; simp)
    clear hx hy he
    go_upto_region 6 with fail
    refine wp_region_held_drew (S := (fun w' => RowAt w' (b) (o + k * 14) 14 #[.int .i64 x.k, .int .i64 x.vm, .int .i64 x.sp, .bool x.al, .int .i64 x.pg, .int .i64 x.lv, .int .i64 x.fr, .int .i64 x.mi, .bool x.t.r, .bool x.t.w, .bool x.t.x, .bool x.t.a, .bool x.t.n, .int .i64 x.t.s] ∧ RowAt w' (b2) (o2 + k * 14) 14 #[.int .i64 y.k, .int .i64 y.vm, .int .i64 y.sp, .bool y.al, .int .i64 y.pg, .int .i64 y.lv, .int .i64 y.fr, .int .i64 y.mi, .bool y.t.r, .bool y.t.w, .bool y.t.x, .bool y.t.a, .bool y.t.n, .int .i64 y.t.s])) (by kernel_rfl) ⟨(HRX.out.below Br.out).drew, (HRY.out.below Br.out).drew⟩ (fun hS => ?_)
    refine tkR 0 17 (v := .slice (some ⟨b, o, none⟩) l c) rfl hS (fun _ _ => by kernel_rfl) ?_
    refine tkR 1 18 (v := .int .i64 k) rfl hS (fun _ _ => by kernel_rfl) ?_
    refine tkR 2 19 (v := .pointer (some ⟨b, o + k * 14, none⟩)) rfl hS (fun _ _ => run_ixN 32 89 (.tmp 17) (.tmp 18) b o l c k 14 (by kernel_rfl) (by kernel_rfl) (by kernel_rfl) Tryz.underlying32 (by kernel_rfl) hlt) ?_
    refine tkR 3 20 (v := .agg #[.int .i64 x.k, .int .i64 x.vm, .int .i64 x.sp, .bool x.al, .int .i64 x.pg, .int .i64 x.lv, .int .i64 x.fr, .int .i64 x.mi, .bool x.t.r, .bool x.t.w, .bool x.t.x, .bool x.t.a, .bool x.t.n, .int .i64 x.t.s]) rfl hS (fun _ h => run_ldN 89 (.tmp 19) b (o + k * 14) (by kernel_rfl) (by kernel_rfl) Tryz.underlying89 rfl (by kernel_rfl) ((h.1).sub 0 _ rfl (Nat.le_of_ble_eq_true rfl))) ?_
    refine tkR 4 21 (v := .slice (some ⟨b2, o2, none⟩) m d) rfl hS (fun _ _ => by kernel_rfl) ?_
    refine tkR 5 22 (v := .int .i64 k) rfl hS (fun _ _ => by kernel_rfl) ?_
    refine tkR 6 23 (v := .pointer (some ⟨b2, o2 + k * 14, none⟩)) rfl hS (fun _ _ => run_ixN 32 89 (.tmp 21) (.tmp 22) b2 o2 m d k 14 (by kernel_rfl) (by kernel_rfl) (by kernel_rfl) Tryz.underlying32 (by kernel_rfl) hlm) ?_
    refine tkR 7 24 (v := .agg #[.int .i64 y.k, .int .i64 y.vm, .int .i64 y.sp, .bool y.al, .int .i64 y.pg, .int .i64 y.lv, .int .i64 y.fr, .int .i64 y.mi, .bool y.t.r, .bool y.t.w, .bool y.t.x, .bool y.t.a, .bool y.t.n, .int .i64 y.t.s]) rfl hS (fun _ h => run_ldN 89 (.tmp 23) b2 (o2 + k * 14) (by kernel_rfl) (by kernel_rfl) Tryz.underlying89 rfl (by kernel_rfl) ((h.2).sub 0 _ rfl (Nat.le_of_ble_eq_true rfl))) ?_
    try simp only [Act.put, List.setIfInBounds_toArray, List.set_cons_zero, List.set_cons_succ]
    refine tkR 8 25 rfl hS (fun w' _ => by go_simp; try with_reducible rfl) ?_
    simp only [pA, pB, pC]
    refine wpAnyH_done (by kernel_rfl) ?_ _
    try simp only [Act.put, List.setIfInBounds_toArray, List.set_cons_zero, List.set_cons_succ]
    have B1 := Lib.hid ((Below.drew Br.out))
    obtain ⟨W1, hW1⟩ : ∃ W1, W1 = (wr).drew := ⟨_, rfl⟩
    have hs1 : w.heap.size ≤ W1.heap.size := by rw [hW1]; first | exact hsr | omega | (simp; omega)
    rw [← hW1] at B1 ⊢
    clear hW1 Br hsr
    go_wp2
    go_roundw
    case rel => exact ⟨k + 1, by omega, by go_num, B1.out, HQ⟩
    case measure => simp [intOf]; omega
  ·have HQ2 := HQ.out
   rw [rows_end HN.out hlt, rows_end (HLM.out.trans HO.out) hlt] at HQ2
   have HQ := Lib.hid (show true = decide (L = M) from by rw [← HQ2]; simp)
   clear HQ2
   go_wp2
   go_ret
   exact ⟨ret_bool HQ.out, Br.out⟩
set_option maxRecDepth 100000 in
set_option maxHeartbeats 3200000 in
theorem eqV_any (f g : Option Addr) (l c m d : Nat) (L M : List Inv) (w : World) (hL : RowsAt KI w f L) (hn : l = L.length) (hM : RowsAt KI w g M) (ho : m = M.length) (hl : l ≤ 1000000) :
  Calls Tryz.prog 41 #[.slice f l c, .slice g m d] w fun r w' => r = .returned (.bool (decide (L = M))) ∧ Below w.heap.size w w' := by
 have HL := Lib.hid hL
 have HN := Lib.hid hn
 have HM := Lib.hid hM
 have HO := Lib.hid ho
 clear hL hM
 by_cases hlm : l = m
 rotate_left
 ·have HF := Lib.hid (show false = decide (L = M) from by symm; rw [decide_eq_false_iff_not]; intro h; rw [h] at hn; omega)
  have d0 : ((l : Int) != (m : Int)) = true := by simp; omega
  clear hn ho
  have htw : w.heap.size ≤ w.heap.size := Nat.le_refl _
  have B0 := Lib.hid (Below.refl w.heap.size w)
  go_enter Tryz.func41, Tryz.ntmps41
  go_wp2
  go_ret
  exact ⟨ret_bool HF.out, B0.out⟩
 have HLM := Lib.hid hlm
 have d0 : ((l : Int) != (m : Int)) = false := by simp; omega
 clear hn ho hlm
 have htw : w.heap.size ≤ w.heap.size := Nat.le_refl _
 have B0 := Lib.hid (Below.refl w.heap.size w)
 go_enter Tryz.func41, Tryz.ntmps41
 go_wp2
 go_loopw [5] (fun i wr => ∃ k : Nat, k ≤ l ∧ i = .int .i64 k ∧ Hid (Below w.heap.size w wr) ∧ Hid (decide (L.drop k = M.drop k) = decide (L = M))) (fun i _ => l - (intOf i).toNat)
 case atStart => exact ⟨0, Nat.zero_le _, rfl, B0.out, Lib.hid rfl⟩
 case round =>
  obtain ⟨k, hk, rfl, Br, HQ⟩ := hrel
  clear B0
  have hsr : w.heap.size ≤ wr.heap.size := Br.out.size
  by_cases hlt : k < l
  ·obtain ⟨x, hx⟩ := rows_some HN.out hlt
   obtain ⟨y, hy⟩ := rows_some (HLM.out.trans HO.out) hlt
   obtain ⟨b, o, rfl, hr0⟩ := HL.out k x hx
   obtain ⟨b2, o2, rfl, hr1⟩ := HM.out k y hy
   have HRX := Lib.hid (show RowAt w b (o + k * 4) 4 #[.int .i64 x.k, .int .i64 x.vm, .int .i64 x.sp, .int .i64 x.pg] from hr0)
   have HRY := Lib.hid (show RowAt w b2 (o2 + k * 4) 4 #[.int .i64 y.k, .int .i64 y.vm, .int .i64 y.sp, .int .i64 y.pg] from hr1)
   have hbk : b < w.heap.size := hr0.lt
   have hbk2 : b2 < w.heap.size := hr1.lt
   clear hr0 hr1
   have i1 : (0 : Int) ≤ (k : Int) := by omega
   have i2 : (k : Int) < (l : Int) := by omega
   have i3 : (k : Int) < (m : Int) := by have := HLM.out; omega
   have hlm : k < m := by have := HLM.out; omega
   have HQ := HQ.out
   rw [rows_drop hx, rows_drop hy] at HQ
   cases hc : eqI x y
   ·have hne : ¬ x = y := by simpa [eqI] using hc
    have HQ := Lib.hid (show false = decide (L = M) from by rw [← HQ]; simp [hne])
    clear hx hy hne
    go_upto_region 6 with fail
    refine wp_region_held_drew (S := (fun w' => RowAt w' (b) (o + k * 4) 4 #[.int .i64 x.k, .int .i64 x.vm, .int .i64 x.sp, .int .i64 x.pg] ∧ RowAt w' (b2) (o2 + k * 4) 4 #[.int .i64 y.k, .int .i64 y.vm, .int .i64 y.sp, .int .i64 y.pg])) (by kernel_rfl) ⟨(HRX.out.below Br.out).drew, (HRY.out.below Br.out).drew⟩ (fun hS => ?_)
    refine tkR 0 17 (v := .slice (some ⟨b, o, none⟩) l c) rfl hS (fun _ _ => by kernel_rfl) ?_
    refine tkR 1 18 (v := .int .i64 k) rfl hS (fun _ _ => by kernel_rfl) ?_
    refine tkR 2 19 (v := .pointer (some ⟨b, o + k * 4, none⟩)) rfl hS (fun _ _ => run_ixN 33 95 (.tmp 17) (.tmp 18) b o l c k 4 (by kernel_rfl) (by kernel_rfl) (by kernel_rfl) Tryz.underlying33 (by kernel_rfl) hlt) ?_
    refine tkR 3 20 (v := .agg #[.int .i64 x.k, .int .i64 x.vm, .int .i64 x.sp, .int .i64 x.pg]) rfl hS (fun _ h => run_ldN 95 (.tmp 19) b (o + k * 4) (by kernel_rfl) (by kernel_rfl) Tryz.underlying95 rfl (by kernel_rfl) ((h.1).sub 0 _ rfl (Nat.le_of_ble_eq_true rfl))) ?_
    refine tkR 4 21 (v := .slice (some ⟨b2, o2, none⟩) m d) rfl hS (fun _ _ => by kernel_rfl) ?_
    refine tkR 5 22 (v := .int .i64 k) rfl hS (fun _ _ => by kernel_rfl) ?_
    refine tkR 6 23 (v := .pointer (some ⟨b2, o2 + k * 4, none⟩)) rfl hS (fun _ _ => run_ixN 33 95 (.tmp 21) (.tmp 22) b2 o2 m d k 4 (by kernel_rfl) (by kernel_rfl) (by kernel_rfl) Tryz.underlying33 (by kernel_rfl) hlm) ?_
    refine tkR 7 24 (v := .agg #[.int .i64 y.k, .int .i64 y.vm, .int .i64 y.sp, .int .i64 y.pg]) rfl hS (fun _ h => run_ldN 95 (.tmp 23) b2 (o2 + k * 4) (by kernel_rfl) (by kernel_rfl) Tryz.underlying95 rfl (by kernel_rfl) ((h.2).sub 0 _ rfl (Nat.le_of_ble_eq_true rfl))) ?_
    try simp only [Act.put, List.setIfInBounds_toArray, List.set_cons_zero, List.set_cons_succ]
    refine tkR 8 25 rfl hS (fun w' _ => by go_simp; try with_reducible rfl) ?_
    simp only [pA, pB, pC]
    refine wpAnyH_done (by kernel_rfl) ?_ _
    try simp only [Act.put, List.setIfInBounds_toArray, List.set_cons_zero, List.set_cons_succ]
    have B1 := Lib.hid ((Below.drew Br.out))
    obtain ⟨W1, hW1⟩ : ∃ W1, W1 = (wr).drew := ⟨_, rfl⟩
    have hs1 : w.heap.size ≤ W1.heap.size := by rw [hW1]; first | exact hsr | omega | (simp; omega)
    rw [← hW1] at B1 ⊢
    clear hW1 Br hsr
    go_wp2
    go_ret
    exact ⟨ret_bool HQ.out, B1.out⟩
   ·have he : x = y := by simpa [eqI] using hc
    have HQ := Lib.hid (show decide (L.drop (k + 1) = M.drop (k + 1)) = decide (L = M) from by rw [← HQ, he]; simp)
    clear hx hy he
    go_upto_region 6 with fail
    refine wp_region_held_drew (S := (fun w' => RowAt w' (b) (o + k * 4) 4 #[.int .i64 x.k, .int .i64 x.vm, .int .i64 x.sp, .int .i64 x.pg] ∧ RowAt w' (b2) (o2 + k * 4) 4 #[.int .i64 y.k, .int .i64 y.vm, .int .i64 y.sp, .int .i64 y.pg])) (by kernel_rfl) ⟨(HRX.out.below Br.out).drew, (HRY.out.below Br.out).drew⟩ (fun hS => ?_)
    refine tkR 0 17 (v := .slice (some ⟨b, o, none⟩) l c) rfl hS (fun _ _ => by kernel_rfl) ?_
    refine tkR 1 18 (v := .int .i64 k) rfl hS (fun _ _ => by kernel_rfl) ?_
    refine tkR 2 19 (v := .pointer (some ⟨b, o + k * 4, none⟩)) rfl hS (fun _ _ => run_ixN 33 95 (.tmp 17) (.tmp 18) b o l c k 4 (by kernel_rfl) (by kernel_rfl) (by kernel_rfl) Tryz.underlying33 (by kernel_rfl) hlt) ?_
    refine tkR 3 20 (v := .agg #[.int .i64 x.k, .int .i64 x.vm, .int .i64 x.sp, .int .i64 x.pg]) rfl hS (fun _ h => run_ldN 95 (.tmp 19) b (o + k * 4) (by kernel_rfl) (by kernel_rfl) Tryz.underlying95 rfl (by kernel_rfl) ((h.1).sub 0 _ rfl (Nat.le_of_ble_eq_true rfl))) ?_
    refine tkR 4 21 (v := .slice (some ⟨b2, o2, none⟩) m d) rfl hS (fun _ _ => by kernel_rfl) ?_
    refine tkR 5 22 (v := .int .i64 k) rfl hS (fun _ _ => by kernel_rfl) ?_
    refine tkR 6 23 (v := .pointer (some ⟨b2, o2 + k * 4, none⟩)) rfl hS (fun _ _ => run_ixN 33 95 (.tmp 21) (.tmp 22) b2 o2 m d k 4 (by kernel_rfl) (by kernel_rfl) (by kernel_rfl) Tryz.underlying33 (by kernel_rfl) hlm) ?_
    refine tkR 7 24 (v := .agg #[.int .i64 y.k, .int .i64 y.vm, .int .i64 y.sp, .int .i64 y.pg]) rfl hS (fun _ h => run_ldN 95 (.tmp 23) b2 (o2 + k * 4) (by kernel_rfl) (by kernel_rfl) Tryz.underlying95 rfl (by kernel_rfl) ((h.2).sub 0 _ rfl (Nat.le_of_ble_eq_true rfl))) ?_
    try simp only [Act.put, List.setIfInBounds_toArray, List.set_cons_zero, List.set_cons_succ]
    refine tkR 8 25 rfl hS (fun w' _ => by go_simp; try with_reducible rfl) ?_
    simp only [pA, pB, pC]
    refine wpAnyH_done (by kernel_rfl) ?_ _
    try simp only [Act.put, List.setIfInBounds_toArray, List.set_cons_zero, List.set_cons_succ]
    have B1 := Lib.hid ((Below.drew Br.out))
    obtain ⟨W1, hW1⟩ : ∃ W1, W1 = (wr).drew := ⟨_, rfl⟩
    have hs1 : w.heap.size ≤ W1.heap.size := by rw [hW1]; first | exact hsr | omega | (simp; omega)
    rw [← hW1] at B1 ⊢
    clear hW1 Br hsr
    go_wp2
    go_roundw
    case rel => exact ⟨k + 1, by omega, by go_num, B1.out, HQ⟩
    case measure => simp [intOf]; omega
  ·have HQ2 := HQ.out
   rw [rows_end HN.out hlt, rows_end (HLM.out.trans HO.out) hlt] at HQ2
   have HQ := Lib.hid (show true = decide (L = M) from by rw [← HQ2]; simp)
   clear HQ2
   go_wp2
   go_ret
   exact ⟨ret_bool HQ.out, Br.out⟩
set_option maxRecDepth 100000 in
set_option maxHeartbeats 3200000 in
theorem copyE_any (f : Option Addr) (l c : Nat) (L : List Ety) (w : World) (hL : RowsAt KE w f L) (hn : l = L.length) (hl : l ≤ 100000) :
  Calls Tryz.prog 27 #[.slice f l c] w fun r w' => ∃ f' c', r = .returned (.slice f' l c') ∧ OwnR KE w' w.heap.size (.slice f' l c') L ∧ Below w.heap.size w w' := by
 have HL := Lib.hid hL
 have HN := Lib.hid hn
 have ON := Lib.hid (OwnR.nil (K := KE) w w.heap.size)
 clear hL hn
 have htw : w.heap.size ≤ w.heap.size := Nat.le_refl _
 have B0 := Lib.hid (Below.refl w.heap.size w)
 go_enter Tryz.func27, Tryz.ntmps27
 go_wp2
 go_loopw [3, 4] (fun s i wr => ∃ (k : Nat) (R : List Ety) (f' : Option Addr) (c' : Nat), k ≤ l ∧ s = .slice f' R.length c' ∧ i = .int .i64 k ∧ Hid (OwnR KE wr w.heap.size (.slice f' R.length c') R) ∧ Hid (Below w.heap.size w wr) ∧ Hid (R ++ L.drop k = L)) (fun _ i _ => l - (intOf i).toNat)
 case atStart => exact ⟨0, [], none, 0, Nat.zero_le _, rfl, rfl, ON, B0.out, Lib.hid rfl⟩
 case round =>
  obtain ⟨k, R, f', c', hk, rfl, rfl, Or, Br, HQ⟩ := hrel
  clear B0
  have hsr : w.heap.size ≤ wr.heap.size := Br.out.size
  have hR : R.length ≤ 100000 := by have := take_len HQ.out; have := HN.out; omega
  by_cases hlt : k < l
  ·obtain ⟨x, hx⟩ := rows_some HN.out hlt
   obtain ⟨b, o, rfl, hr0⟩ := HL.out k x hx
   have HRX := Lib.hid (show RowAt w b (o + k * 14) 14 #[.int .i64 x.k, .int .i64 x.vm, .int .i64 x.sp, .bool x.al, .int .i64 x.pg, .int .i64 x.lv, .int .i64 x.fr, .int .i64 x.mi, .bool x.t.r, .bool x.t.w, .bool x.t.x, .bool x.t.a, .bool x.t.n, .int .i64 x.t.s] from hr0)
   have hbk : b < w.heap.size := hr0.lt
   clear hr0
   have i1 : (0 : Int) ≤ (k : Int) := by omega
   have i2 : (k : Int) < (l : Int) := by omega
   have HQ := Lib.hid (take_next HQ.out hx)
   clear hx
   have yX := (HRX.out.below Br.out)
   have yX0 := yX.get0 (.int .i64 x.k) (by decide) rfl
   have yX1 := yX.get 1 (.int .i64 x.vm) (by decide) rfl
   have yX2 := yX.get 2 (.int .i64 x.sp) (by decide) rfl
   have yX3 := yX.get 3 (.bool x.al) (by decide) rfl
   have yX4 := yX.get 4 (.int .i64 x.pg) (by decide) rfl
   have yX5 := yX.get 5 (.int .i64 x.lv) (by decide) rfl
   have yX6 := yX.get 6 (.int .i64 x.fr) (by decide) rfl
   have yX7 := yX.get 7 (.int .i64 x.mi) (by decide) rfl
   have yX8 := yX.get 8 (.bool x.t.r) (by decide) rfl
   have yX9 := yX.get 9 (.bool x.t.w) (by decide) rfl
   have yX10 := yX.get 10 (.bool x.t.x) (by decide) rfl
   have yX11 := yX.get 11 (.bool x.t.a) (by decide) rfl
   have yX12 := yX.get 12 (.bool x.t.n) (by decide) rfl
   have yX13 := yX.get 13 (.int .i64 x.t.s) (by decide) rfl
   clear yX
   go_wp2_with (at_builtin; refine wpList_pushR (K := KE) rfl _ _ rfl w.heap.size _ R rfl (Or.out.alloc (.cells #[.int .i64 x.k, .int .i64 x.vm, .int .i64 x.sp, .bool x.al, .int .i64 x.pg, .int .i64 x.lv, .int .i64 x.fr, .int .i64 x.mi, .bool x.t.r, .bool x.t.w, .bool x.t.x, .bool x.t.a, .bool x.t.n, .int .i64 x.t.s] 89)) (wr.heap.size) 1 x rfl (fun i _ => ((BoxAt.newAt (wr) #[.int .i64 x.k, .int .i64 x.vm, .int .i64 x.sp, .bool x.al, .int .i64 x.pg, .int .i64 x.lv, .int .i64 x.fr, .int .i64 x.mi, .bool x.t.r, .bool x.t.w, .bool x.t.x, .bool x.t.a, .bool x.t.n, .int .i64 x.t.s] 89 (wr.heap.size) (by first | omega | (simp; done) | (simp; omega)))).cell i) hR (by first | omega | (simp; omega)) ?_; intro f1a c1a w1 hO1 hg1; clear yX0 yX1 yX2 yX3 yX4 yX5 yX6 yX7 yX8 yX9 yX10 yX11 yX12 yX13; have hz1 := hg1.size; try simp at hz1; have O1 := Lib.hid (hO1); have B1 := Lib.hid ((bel_alloc Br.out (.cells #[.int .i64 x.k, .int .i64 x.vm, .int .i64 x.sp, .bool x.al, .int .i64 x.pg, .int .i64 x.lv, .int .i64 x.fr, .int .i64 x.mi, .bool x.t.r, .bool x.t.w, .bool x.t.x, .bool x.t.a, .bool x.t.n, .int .i64 x.t.s] 89)).grown hg1 (show w.heap.size ≤ _ by first | omega | (simp; omega)) (fun k hk => Nat.le_trans (show w.heap.size ≤ w.heap.size by omega) ((Or.out.alloc (.cells #[.int .i64 x.k, .int .i64 x.vm, .int .i64 x.sp, .bool x.al, .int .i64 x.pg, .int .i64 x.lv, .int .i64 x.fr, .int .i64 x.mi, .bool x.t.r, .bool x.t.w, .bool x.t.x, .bool x.t.a, .bool x.t.n, .int .i64 x.t.s] 89)).blk k hk))); have hs1 : w.heap.size ≤ w1.heap.size := (by omega); clear Or Br hg1 hO1 hz1 hsr)
   go_roundw
   case rel => exact ⟨k + 1, R ++ [x], f1a, c1a, by omega, by simp, by go_num, Lib.hid (by simpa using O1.out), B1.out, HQ⟩
   case measure => simp [intOf]; omega
  ·go_wp2
   go_ret
   have HQ := HQ.out
   rw [rows_end HN.out hlt, List.append_nil] at HQ
   have HN := HN.out
   subst HQ
   rw [HN]
   exact ⟨f', c', rfl, Or.out, Br.out⟩
set_option maxRecDepth 100000 in
set_option maxHeartbeats 3200000 in
theorem copyV_any (f : Option Addr) (l c : Nat) (L : List Inv) (w : World) (hL : RowsAt KI w f L) (hn : l = L.length) (hl : l ≤ 100000) :
  Calls Tryz.prog 28 #[.slice f l c] w fun r w' => ∃ f' c', r = .returned (.slice f' l c') ∧ OwnR KI w' w.heap.size (.slice f' l c') L ∧ Below w.heap.size w w' := by
 have HL := Lib.hid hL
 have HN := Lib.hid hn
 have ON := Lib.hid (OwnR.nil (K := KI) w w.heap.size)
 clear hL hn
 have htw : w.heap.size ≤ w.heap.size := Nat.le_refl _
 have B0 := Lib.hid (Below.refl w.heap.size w)
 go_enter Tryz.func28, Tryz.ntmps28
 go_wp2
 go_loopw [3, 4] (fun s i wr => ∃ (k : Nat) (R : List Inv) (f' : Option Addr) (c' : Nat), k ≤ l ∧ s = .slice f' R.length c' ∧ i = .int .i64 k ∧ Hid (OwnR KI wr w.heap.size (.slice f' R.length c') R) ∧ Hid (Below w.heap.size w wr) ∧ Hid (R ++ L.drop k = L)) (fun _ i _ => l - (intOf i).toNat)
 case atStart => exact ⟨0, [], none, 0, Nat.zero_le _, rfl, rfl, ON, B0.out, Lib.hid rfl⟩
 case round =>
  obtain ⟨k, R, f', c', hk, rfl, rfl, Or, Br, HQ⟩ := hrel
  clear B0
  have hsr : w.heap.size ≤ wr.heap.size := Br.out.size
  have hR : R.length ≤ 100000 := by have := take_len HQ.out; have := HN.out; omega
  by_cases hlt : k < l
  ·obtain ⟨x, hx⟩ := rows_some HN.out hlt
   obtain ⟨b, o, rfl, hr0⟩ := HL.out k x hx
   have HRX := Lib.hid (show RowAt w b (o + k * 4) 4 #[.int .i64 x.k, .int .i64 x.vm, .int .i64 x.sp, .int .i64 x.pg] from hr0)
   have hbk : b < w.heap.size := hr0.lt
   clear hr0
   have i1 : (0 : Int) ≤ (k : Int) := by omega
   have i2 : (k : Int) < (l : Int) := by omega
   have HQ := Lib.hid (take_next HQ.out hx)
   clear hx
   have yX := (HRX.out.below Br.out)
   have yX0 := yX.get0 (.int .i64 x.k) (by decide) rfl
   have yX1 := yX.get 1 (.int .i64 x.vm) (by decide) rfl
   have yX2 := yX.get 2 (.int .i64 x.sp) (by decide) rfl
   have yX3 := yX.get 3 (.int .i64 x.pg) (by decide) rfl
   clear yX
   go_wp2_with (at_builtin; refine wpList_pushR (K := KI) rfl _ _ rfl w.heap.size _ R rfl (Or.out.alloc (.cells #[.int .i64 x.k, .int .i64 x.vm, .int .i64 x.sp, .int .i64 x.pg] 95)) (wr.heap.size) 1 x rfl (fun i _ => ((BoxAt.newAt (wr) #[.int .i64 x.k, .int .i64 x.vm, .int .i64 x.sp, .int .i64 x.pg] 95 (wr.heap.size) (by first | omega | (simp; done) | (simp; omega)))).cell i) hR (by first | omega | (simp; omega)) ?_; intro f1a c1a w1 hO1 hg1; clear yX0 yX1 yX2 yX3; have hz1 := hg1.size; try simp at hz1; have O1 := Lib.hid (hO1); have B1 := Lib.hid ((bel_alloc Br.out (.cells #[.int .i64 x.k, .int .i64 x.vm, .int .i64 x.sp, .int .i64 x.pg] 95)).grown hg1 (show w.heap.size ≤ _ by first | omega | (simp; omega)) (fun k hk => Nat.le_trans (show w.heap.size ≤ w.heap.size by omega) ((Or.out.alloc (.cells #[.int .i64 x.k, .int .i64 x.vm, .int .i64 x.sp, .int .i64 x.pg] 95)).blk k hk))); have hs1 : w.heap.size ≤ w1.heap.size := (by omega); clear Or Br hg1 hO1 hz1 hsr)
   go_roundw
   case rel => exact ⟨k + 1, R ++ [x], f1a, c1a, by omega, by simp, by go_num, Lib.hid (by simpa using O1.out), B1.out, HQ⟩
   case measure => simp [intOf]; omega
  ·go_wp2
   go_ret
   have HQ := HQ.out
   rw [rows_end HN.out hlt, List.append_nil] at HQ
   have HN := HN.out
   subst HQ
   rw [HN]
   exact ⟨f', c', rfl, Or.out, Br.out⟩
end Go.Proofs.YtmelepohdbojlaaGreat
