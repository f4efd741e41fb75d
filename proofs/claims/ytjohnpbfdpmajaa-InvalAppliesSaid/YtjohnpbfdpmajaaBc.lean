/- The reference's loops over entries: contracts. -/
import Derived.Test.YtjohnpbfdpmajaaBb
import Derived.Test.YtjohnpbfdpmajaaTk
import Derived.Test.YtjohnpbfdpmajaaRk
set_option linter.all false
namespace Go.Proofs.Ytjohnpbfdpmajaa
open Go.ChangeShapes Go.WideShapes Go.ChangeAt Go.RowKit Go.Deep

theorem rows_drop {α : Type} {L : List α} {k : Nat} {x : α} (h : L[k]? = some x) : L.drop k = x :: L.drop (k + 1) := by
  obtain ⟨hk, rfl⟩ := List.getElem?_eq_some_iff.1 h
  exact List.drop_eq_getElem_cons hk
theorem rows_end {α : Type} {L : List α} {k l : Nat} (h : l = L.length) (hk : ¬ k < l) : L.drop k = [] := List.drop_eq_nil_of_le (by omega)
theorem rows_some {α : Type} {L : List α} {k l : Nat} (h : l = L.length) (hk : k < l) : ∃ x, L[k]? = some x := ⟨_, List.getElem?_eq_getElem (by omega)⟩
set_option maxRecDepth 100000 in
set_option maxHeartbeats 3200000 in
theorem in9_any (f : Option Addr) (l c : Nat) (L : List Ety) (e : Ety) (w : World) (hL : RowsAt KE w f L) (hn : l = L.length) (hl : l ≤ 1000000) :
    Calls Try.prog 48 #[.slice f l c, entV e] w fun r w' => r = .returned (.int .i64 (inE L e)) ∧ Below w.heap.size w w' := by
  have HL := Lib.hid hL
  have HN := Lib.hid hn
  clear hL hn
  unfold entV entC
  have htw : w.heap.size ≤ w.heap.size := Nat.le_refl _
  have B0 := Lib.hid (Below.refl w.heap.size w)
  go_enter Try.func48, Try.ntmps48
  go_upto_region 1 with fail
  have E1 := Lib.hid ((BoxAt.newAt (w) #[.int .i64 e.k, .int .i64 e.vm, .int .i64 e.sp, .bool e.al, .int .i64 e.pg, .int .i64 e.lv, .int .i64 e.fr, .int .i64 e.mi, .bool e.t.r, .bool e.t.w, .bool e.t.x, .bool e.t.a, .bool e.t.n, .int .i64 e.t.s] 36 (w.heap.size) (by first | omega | (simp; done) | (simp; omega))))
  have B1 := Lib.hid ((bel_alloc B0.out (.cells #[.int .i64 e.k, .int .i64 e.vm, .int .i64 e.sp, .bool e.al, .int .i64 e.pg, .int .i64 e.lv, .int .i64 e.fr, .int .i64 e.mi, .bool e.t.r, .bool e.t.w, .bool e.t.x, .bool e.t.a, .bool e.t.n, .int .i64 e.t.s] 36)))
  obtain ⟨g1, hg1⟩ : ∃ g1, g1 = w.heap.size := ⟨_, rfl⟩
  obtain ⟨W1, hW1⟩ : ∃ W1, W1 = (w).alloc (.cells #[.int .i64 e.k, .int .i64 e.vm, .int .i64 e.sp, .bool e.al, .int .i64 e.pg, .int .i64 e.lv, .int .i64 e.fr, .int .i64 e.mi, .bool e.t.r, .bool e.t.w, .bool e.t.x, .bool e.t.a, .bool e.t.n, .int .i64 e.t.s] 36) := ⟨_, rfl⟩
  have hs1 : g1 + 1 ≤ W1.heap.size := by rw [hW1, hg1]; simp
  rw [← hW1] at E1 B1 ⊢
  have hb1 : w.heap.size ≤ g1 := by omega
  rw [← hg1] at E1 ⊢
  clear hg1
  clear hW1 B0
  go_wp2
  go_loopw [5] (fun i wr => ∃ k : Nat, k ≤ l ∧ i = .int .i64 k ∧ Hid (BoxAt wr (g1) #[.int .i64 e.k, .int .i64 e.vm, .int .i64 e.sp, .bool e.al, .int .i64 e.pg, .int .i64 e.lv, .int .i64 e.fr, .int .i64 e.mi, .bool e.t.r, .bool e.t.w, .bool e.t.x, .bool e.t.a, .bool e.t.n, .int .i64 e.t.s] 36) ∧ Hid (Below w.heap.size w wr) ∧ Hid (placeE (fun x => eqE x e) (L.drop k) k = inE L e)) (fun i _ => l - (intOf i).toNat)
  case atStart => exact ⟨0, Nat.zero_le _, rfl, E1.out, B1.out, Lib.hid rfl⟩
  case round =>
    obtain ⟨k, hk, rfl, Er, Br, HQ⟩ := hrel
    clear E1 B1
    have hsr : g1 + 1 ≤ wr.heap.size := Er.out.lt
    by_cases hlt : k < l
    · obtain ⟨x, hx⟩ := rows_some HN.out hlt
      obtain ⟨b, o, rfl, hr0⟩ := HL.out k x hx
      have HRX := Lib.hid (show RowAt w b (o + k * 14) 14 #[.int .i64 x.k, .int .i64 x.vm, .int .i64 x.sp, .bool x.al, .int .i64 x.pg, .int .i64 x.lv, .int .i64 x.fr, .int .i64 x.mi, .bool x.t.r, .bool x.t.w, .bool x.t.x, .bool x.t.a, .bool x.t.n, .int .i64 x.t.s] from hr0)
      have hbk : b < w.heap.size := hr0.lt
      clear hr0
      have i1 : (0 : Int) ≤ (k : Int) := by omega
      have i2 : (k : Int) < (l : Int) := by omega
      have HQ := HQ.out
      rw [rows_drop hx] at HQ
      unfold placeE at HQ
      try simp only at HQ
      cases hc : eqE x e
      · rw [hc, if_neg (by decide)] at HQ
        have HQ := Lib.hid (show placeE (fun x => eqE x e) (L.drop (k + 1)) ((k + 1 : Nat) : Int) = inE L e from HQ)
        clear hx
        go_upto_region 4 with fail
        refine wp_region_held_drew (S := (fun w' => RowAt w' (b) (o + k * 14) 14 #[.int .i64 x.k, .int .i64 x.vm, .int .i64 x.sp, .bool x.al, .int .i64 x.pg, .int .i64 x.lv, .int .i64 x.fr, .int .i64 x.mi, .bool x.t.r, .bool x.t.w, .bool x.t.x, .bool x.t.a, .bool x.t.n, .int .i64 x.t.s] ∧ BoxAt w' (g1) #[.int .i64 e.k, .int .i64 e.vm, .int .i64 e.sp, .bool e.al, .int .i64 e.pg, .int .i64 e.lv, .int .i64 e.fr, .int .i64 e.mi, .bool e.t.r, .bool e.t.w, .bool e.t.x, .bool e.t.a, .bool e.t.n, .int .i64 e.t.s] 36)) (by kernel_rfl) ⟨(HRX.out.below Br.out).drew, Er.out.drew⟩ (fun hS => ?_)
        refine tkR 0 12 (v := .slice (some ⟨b, o, none⟩) l c) rfl hS (fun _ _ => by kernel_rfl) ?_
        refine tkR 1 13 (v := .int .i64 k) rfl hS (fun _ _ => by kernel_rfl) ?_
        refine tkR 2 14 (v := .pointer (some ⟨b, o + k * 14, none⟩)) rfl hS (fun _ _ => run_ixN 24 36 (.tmp 12) (.tmp 13) b o l c k 14 (by kernel_rfl) (by kernel_rfl) (by kernel_rfl) Try.underlying24 (by kernel_rfl) hlt) ?_
        refine tkR 3 15 (v := .agg #[.int .i64 x.k, .int .i64 x.vm, .int .i64 x.sp, .bool x.al, .int .i64 x.pg, .int .i64 x.lv, .int .i64 x.fr, .int .i64 x.mi, .bool x.t.r, .bool x.t.w, .bool x.t.x, .bool x.t.a, .bool x.t.n, .int .i64 x.t.s]) rfl hS (fun _ h => run_ldN 36 (.tmp 14) b (o + k * 14) (by kernel_rfl) (by kernel_rfl) Try.underlying36 rfl (by kernel_rfl) ((h.1).sub 0 _ rfl (Nat.le_of_ble_eq_true rfl))) ?_
        refine tkR 4 16 (v := .agg #[.int .i64 e.k, .int .i64 e.vm, .int .i64 e.sp, .bool e.al, .int .i64 e.pg, .int .i64 e.lv, .int .i64 e.fr, .int .i64 e.mi, .bool e.t.r, .bool e.t.w, .bool e.t.x, .bool e.t.a, .bool e.t.n, .int .i64 e.t.s]) rfl hS (fun _ h => run_ldN 36 (.tmp 3) g1 0 (by kernel_rfl) (by kernel_rfl) Try.underlying36 rfl (by kernel_rfl) ((h.2).sub 0 _ rfl)) ?_
        try simp only [Act.put, List.setIfInBounds_toArray, List.set_cons_zero, List.set_cons_succ]
        refine tkR 5 17 rfl hS (fun w' _ => by go_simp; try with_reducible rfl) ?_
        simp only [pA, pB, pC]
        refine wpAnyH_done (by kernel_rfl) ?_ _
        try simp only [Act.put, List.setIfInBounds_toArray, List.set_cons_zero, List.set_cons_succ]
        have E2 := Lib.hid ((Er.out.drew))
        have B2 := Lib.hid ((Below.drew Br.out))
        obtain ⟨W2, hW2⟩ : ∃ W2, W2 = (wr).drew := ⟨_, rfl⟩
        have hs2 : g1 + 1 ≤ W2.heap.size := by rw [hW2]; first | exact hsr | omega | (simp; omega)
        rw [← hW2] at E2 B2 ⊢
        clear hW2 Er Br hsr
        go_wp2
        go_roundw
        case rel => exact ⟨k + 1, by omega, by go_num, E2.out, B2.out, HQ⟩
        case measure => simp [intOf]; omega
      · rw [hc, if_pos rfl] at HQ
        have HQ := Lib.hid HQ
        clear hx
        go_upto_region 4 with fail
        refine wp_region_held_drew (S := (fun w' => RowAt w' (b) (o + k * 14) 14 #[.int .i64 x.k, .int .i64 x.vm, .int .i64 x.sp, .bool x.al, .int .i64 x.pg, .int .i64 x.lv, .int .i64 x.fr, .int .i64 x.mi, .bool x.t.r, .bool x.t.w, .bool x.t.x, .bool x.t.a, .bool x.t.n, .int .i64 x.t.s] ∧ BoxAt w' (g1) #[.int .i64 e.k, .int .i64 e.vm, .int .i64 e.sp, .bool e.al, .int .i64 e.pg, .int .i64 e.lv, .int .i64 e.fr, .int .i64 e.mi, .bool e.t.r, .bool e.t.w, .bool e.t.x, .bool e.t.a, .bool e.t.n, .int .i64 e.t.s] 36)) (by kernel_rfl) ⟨(HRX.out.below Br.out).drew, Er.out.drew⟩ (fun hS => ?_)
        refine tkR 0 12 (v := .slice (some ⟨b, o, none⟩) l c) rfl hS (fun _ _ => by kernel_rfl) ?_
        refine tkR 1 13 (v := .int .i64 k) rfl hS (fun _ _ => by kernel_rfl) ?_
        refine tkR 2 14 (v := .pointer (some ⟨b, o + k * 14, none⟩)) rfl hS (fun _ _ => run_ixN 24 36 (.tmp 12) (.tmp 13) b o l c k 14 (by kernel_rfl) (by kernel_rfl) (by kernel_rfl) Try.underlying24 (by kernel_rfl) hlt) ?_
        refine tkR 3 15 (v := .agg #[.int .i64 x.k, .int .i64 x.vm, .int .i64 x.sp, .bool x.al, .int .i64 x.pg, .int .i64 x.lv, .int .i64 x.fr, .int .i64 x.mi, .bool x.t.r, .bool x.t.w, .bool x.t.x, .bool x.t.a, .bool x.t.n, .int .i64 x.t.s]) rfl hS (fun _ h => run_ldN 36 (.tmp 14) b (o + k * 14) (by kernel_rfl) (by kernel_rfl) Try.underlying36 rfl (by kernel_rfl) ((h.1).sub 0 _ rfl (Nat.le_of_ble_eq_true rfl))) ?_
        refine tkR 4 16 (v := .agg #[.int .i64 e.k, .int .i64 e.vm, .int .i64 e.sp, .bool e.al, .int .i64 e.pg, .int .i64 e.lv, .int .i64 e.fr, .int .i64 e.mi, .bool e.t.r, .bool e.t.w, .bool e.t.x, .bool e.t.a, .bool e.t.n, .int .i64 e.t.s]) rfl hS (fun _ h => run_ldN 36 (.tmp 3) g1 0 (by kernel_rfl) (by kernel_rfl) Try.underlying36 rfl (by kernel_rfl) ((h.2).sub 0 _ rfl)) ?_
        try simp only [Act.put, List.setIfInBounds_toArray, List.set_cons_zero, List.set_cons_succ]
        refine tkR 5 17 rfl hS (fun w' _ => by go_simp; try with_reducible rfl) ?_
        simp only [pA, pB, pC]
        refine wpAnyH_done (by kernel_rfl) ?_ _
        try simp only [Act.put, List.setIfInBounds_toArray, List.set_cons_zero, List.set_cons_succ]
        have E2 := Lib.hid ((Er.out.drew))
        have B2 := Lib.hid ((Below.drew Br.out))
        obtain ⟨W2, hW2⟩ : ∃ W2, W2 = (wr).drew := ⟨_, rfl⟩
        have hs2 : g1 + 1 ≤ W2.heap.size := by rw [hW2]; first | exact hsr | omega | (simp; omega)
        rw [← hW2] at E2 B2 ⊢
        clear hW2 Er Br hsr
        go_wp2
        go_ret
        exact ⟨ret_int HQ.out, B2.out⟩
    · have HQ := HQ.out
      rw [rows_end HN.out hlt] at HQ
      have HQ := Lib.hid (show (-1 : Int) = inE L e from HQ)
      go_wp2
      go_ret
      exact ⟨ret_int HQ.out, Br.out⟩
end Go.Proofs.Ytjohnpbfdpmajaa
