/- What is handed back is spoiled: its own two blocks alone change. Stage 10: Later: contract. -/
import Derived.Test.YtjohnpbfdpmajaaBl
import Derived.Test.YtjohnpbfdpmajaaIh
import Derived.Test.YtjohnpbfdpmajaaIi
import Derived.Test.YtjohnpbfdpmajaaIk
set_option linter.all false
namespace Go.Proofs.Ytjohnpbfdpmajaa
section
open Go.ChangeShapes Go.WideShapes Go.ChangeAt Go.RowKit Go.Deep Go.Shelf

set_option maxRecDepth 100000 in
set_option maxHeartbeats 3200000 in
theorem spoilS_any (base : Nat) (f g : Option Addr) (l c m d : Nat) (E : List Ety) (D : List Inv) (w : World) (hE : OwnR KE w base (.slice f l c) E) (hD : OwnR KI w base (.slice g m d) D) (hl : l ≤ 1000000) (hm : m ≤ 1000000) :
    Calls Try.prog 27 #[.agg #[.slice f l c, .slice g m d]] w fun e w' => e = .returned (.tuple #[]) ∧ ∃ v, w.grownBy v (Value.slice f l c).ownBlock ∧ v.grownBy w' (Value.slice g m d).ownBlock := by
  have HT := Lib.hid (fun h => hE.there h)
  have HV := Lib.hid (fun h => hD.there h)
  clear hE hD
  have HI1 := Lib.hid spE_info
  have HI2 := Lib.hid spE_one
  have HI3 := Lib.hid spV_info
  have HI4 := Lib.hid spV_one
  have T0 := Lib.hid (BoxAt.new w #[.slice f l c, .slice g m d] 43)
  have B0 := Lib.hid (grown_below (row := (Value.slice f l c).ownBlock) (bel_alloc (Below.refl w.heap.size w) (.cells #[.slice f l c, .slice g m d] 43)))
  go_enter Try.func27, Try.ntmps27
  go_wp2
  obtain ⟨W1, hW1⟩ : ∃ W1, W1 = w.alloc (.cells #[.slice f l c, .slice g m d] 43) := ⟨_, rfl⟩
  obtain ⟨G, hG⟩ : ∃ G, G = w.heap.size := ⟨_, rfl⟩
  have hk1 : ∀ b o n, w.there b o n → W1.there b o n := fun b o n h => by rw [hW1]; exact World.there_alloc h _
  have HK1 := Lib.hid hk1
  rw [← hW1] at T0 B0 ⊢
  rw [← hG] at T0 ⊢
  have HG := Lib.hid hG
  clear hW1 hk1 hG
  go_loopw [2] (fun i wr => ∃ k : Nat, k ≤ l ∧ i = .int .i64 k ∧ Hid (w.grownBy wr (Value.slice f l c).ownBlock) ∧ Hid (BoxAt wr G #[.slice f l c, .slice g m d] 43) ∧ Hid (∀ b o n, w.there b o n → wr.there b o n)) (fun i _ => l - (intOf i).toNat)
  case atStart => exact ⟨0, Nat.zero_le _, rfl, B0, T0, HK1⟩
  case round =>
    obtain ⟨k, hk, rfl, B1, T1, HK⟩ := hrel
    clear B0 T0 HK1
    by_cases hlt : k < l
    · obtain ⟨gb, rfl, hg1, hg2, ht⟩ := HT.out (by omega)
      have HTH := Lib.hid (there_sub (N := 14) (HK.out _ _ _ ht) hlt)
      have c0 := T1.out.get 0 (.slice (some ⟨gb, 0, none⟩) l c) rfl
      have i1 : (0 : Int) ≤ (k : Int) := by omega
      have i2 : (k : Int) < (l : Int) := by omega
      clear ht
      go_wp2_with (refine wpList_store_mid rfl 36 _ _ rfl gb (k * 14) spE rfl rfl HTH.out HI1.out HI2.out ?_; obtain ⟨W9, hW9⟩ : ∃ W9, W9 = wr.setCells gb (k * 14) spE.toList := ⟨_, rfl⟩; rw [← hW9]; have HB9 := Lib.hid (show w.grownBy W9 (Value.slice (some ⟨gb, 0, none⟩) l c).ownBlock from by rw [hW9]; exact B1.out.trans (grownBy_setCells _ _)); have HT9 := Lib.hid (show BoxAt W9 G #[.slice (some ⟨gb, 0, none⟩) l c, .slice g m d] 43 from by rw [hW9]; exact BoxAt.setCells _ _ _ T1.out (by have := HG.out; omega)); have HK9 := Lib.hid (show ∀ b o n, w.there b o n → W9.there b o n from by rw [hW9]; exact fun b o n h => World.there_setCells (HK.out b o n h) _ _ _); clear hW9)
      go_roundw
      case rel => exact ⟨k + 1, by omega, by go_num, HB9.out, HT9.out, HK9.out⟩
      case measure => simp [intOf]; omega
    · have c0 := T1.out.get 0 (.slice f l c) rfl
      have G1 := B1
      have B0 := Lib.hid (grown_below (row := (Value.slice g m d).ownBlock) (Below.refl wr.heap.size wr))
      obtain ⟨V, hV⟩ : ∃ V, V = wr := ⟨_, rfl⟩
      have T0 := T1
      have HK1 := HK
      clear B1 T1 HK
      rw [← hV] at G1 B0 T0 HK1 c0 ⊢
      clear hV
      go_wp2_with fail
      go_loopw [3] (fun i wr => ∃ k : Nat, k ≤ m ∧ i = .int .i64 k ∧ Hid (V.grownBy wr (Value.slice g m d).ownBlock) ∧ Hid (BoxAt wr G #[.slice f l c, .slice g m d] 43) ∧ Hid (∀ b o n, w.there b o n → wr.there b o n)) (fun i _ => m - (intOf i).toNat)
      case atStart => exact ⟨0, Nat.zero_le _, rfl, B0.out, T0.out, HK1.out⟩
      case round =>
        obtain ⟨k2, hk2, rfl, B1, T1, HK⟩ := hrel
        clear B0 T0 HK1
        by_cases hlt2 : k2 < m
        · obtain ⟨gb, rfl, hg1, hg2, ht⟩ := HV.out (by omega)
          have HTH := Lib.hid (there_sub (N := 4) (HK.out _ _ _ ht) hlt2)
          have c1 := T1.out.get 1 (.slice (some ⟨gb, 0, none⟩) m d) rfl
          have i1 : (0 : Int) ≤ (k2 : Int) := by omega
          have i2 : (k2 : Int) < (m : Int) := by omega
          clear ht
          go_wp2_with (refine wpList_store_mid rfl 32 _ _ rfl gb (k2 * 4) spV rfl rfl HTH.out HI3.out HI4.out ?_; obtain ⟨W9, hW9⟩ : ∃ W9, W9 = wr.setCells gb (k2 * 4) spV.toList := ⟨_, rfl⟩; rw [← hW9]; have HB9 := Lib.hid (show V.grownBy W9 (Value.slice (some ⟨gb, 0, none⟩) m d).ownBlock from by rw [hW9]; exact B1.out.trans (grownBy_setCells _ _)); have HT9 := Lib.hid (show BoxAt W9 G #[.slice f l c, .slice (some ⟨gb, 0, none⟩) m d] 43 from by rw [hW9]; exact BoxAt.setCells _ _ _ T1.out (by have := HG.out; omega)); have HK9 := Lib.hid (show ∀ b o n, w.there b o n → W9.there b o n from by rw [hW9]; exact fun b o n h => World.there_setCells (HK.out b o n h) _ _ _); clear hW9)
          go_roundw
          case rel => exact ⟨k2 + 1, by omega, by go_num, HB9.out, HT9.out, HK9.out⟩
          case measure => simp [intOf]; omega
        · have c1 := T1.out.get 1 (.slice g m d) rfl
          go_wp2
          go_end0
          exact ⟨rfl, V, G1.out, B1.out⟩
end
section
open Go.ChangeShapes Go.WideShapes Go.ChangeAt Go.RowKit Go.Deep Go.Shelf

/-- What owe leaves. -/
def EndO (w : World) (base db : Nat) (g : Option Addr) (m d : Nat) (L : List Inv) (r : Ending) (w' : World) : Prop :=
  ∃ g' d' v, r = .returned (.tuple #[]) ∧ OwnR KI v base (.slice g' (m + 1) d') L ∧ w.grownBy v (Value.slice g m d).ownBlock ∧ w' = v.setCell ⟨db, 1, none⟩ (.slice g' (m + 1) d')
set_option maxRecDepth 100000 in
set_option maxHeartbeats 3200000 in
theorem owe_any (f g : Option Addr) (l c m d db base : Nat) (D : List Inv) (i : Inv) (w : World) (hT : BoxAt w db #[.slice f l c, .slice g m d] 73) (hO : OwnR KI w base (.slice g m d) D) (hm : m ≤ 90000) (hb : base ≤ w.heap.size) (hdb : base ≤ db) :
    Calls Try.prog 51 #[.pointer (some ⟨db, 0, none⟩), invV i] w (EndO w base db g m d (D ++ [i])) := by
  unfold EndO
  have hdl : db < w.heap.size := hT.lt
  have T0 := Lib.hid hT
  have D0 := Lib.hid hO
  have HN := Lib.hid hO.rows.1
  have HDB := Lib.hid (show ∀ k, (Value.slice g m d).ownBlock = some k → k < w.heap.size from hO.blt)
  clear hT hO
  unfold invV invC
  have htw : w.heap.size ≤ w.heap.size := Nat.le_refl _
  have B0 := Lib.hid (show Below base w w from Below.refl _ _)
  have C0 := Lib.hid (Below.refl w.heap.size w)
  go_enter Try.func51, Try.ntmps51
  go_upto_region 1 with fail
  have T1 := Lib.hid ((T0.out.alloc (.cells #[.int .i64 i.k, .int .i64 i.vm, .int .i64 i.sp, .int .i64 i.pg] 32)))
  have I1 := Lib.hid ((BoxAt.newAt (w) #[.int .i64 i.k, .int .i64 i.vm, .int .i64 i.sp, .int .i64 i.pg] 32 (w.heap.size) (by first | omega | (simp; done) | (simp; omega))))
  have D1 := Lib.hid ((D0.out.alloc (.cells #[.int .i64 i.k, .int .i64 i.vm, .int .i64 i.sp, .int .i64 i.pg] 32)))
  have B1 := Lib.hid ((B0.out.trans ((bel_alloc (Below.refl _ _) (.cells #[.int .i64 i.k, .int .i64 i.vm, .int .i64 i.sp, .int .i64 i.pg] 32)).mono (show base ≤ _ from (by first | omega | (simp; done) | (simp; omega))))))
  have C1_ := Lib.hid ((bel_alloc C0.out (.cells #[.int .i64 i.k, .int .i64 i.vm, .int .i64 i.sp, .int .i64 i.pg] 32)))
  obtain ⟨g1, hg1⟩ : ∃ g1, g1 = w.heap.size := ⟨_, rfl⟩
  obtain ⟨W1, hW1⟩ : ∃ W1, W1 = (w).alloc (.cells #[.int .i64 i.k, .int .i64 i.vm, .int .i64 i.sp, .int .i64 i.pg] 32) := ⟨_, rfl⟩
  have hs1 : g1 + 1 ≤ W1.heap.size := by rw [hW1, hg1]; simp
  rw [← hW1] at T1 I1 D1 B1 C1_ ⊢
  have hb1 : w.heap.size ≤ g1 := by omega
  rw [← hg1] at I1 ⊢
  clear hg1
  clear hW1 T0 D0 B0 C0
  refine wp_region_tail [14] (fun _ => True) (fun w' => BoxAt w' (db) #[.slice f l c, .slice g m d] 73 ∧ BoxAt w' (g1) #[.int .i64 i.k, .int .i64 i.vm, .int .i64 i.sp, .int .i64 i.pg] 32) (by kernel_rfl) ?_
  have hS : (fun w' => BoxAt w' (db) #[.slice f l c, .slice g m d] 73 ∧ BoxAt w' (g1) #[.int .i64 i.k, .int .i64 i.vm, .int .i64 i.sp, .int .i64 i.pg] 32) W1.drew := ⟨T1.out.drew, I1.out.drew⟩
  skip
  have T2 := Lib.hid ((T1.out.drew))
  have I2 := Lib.hid ((I1.out.drew))
  have D2 := Lib.hid ((D1.out.drew))
  have B2 := Lib.hid ((Below.drew B1.out))
  have C2_ := Lib.hid ((Below.drew C1_.out))
  obtain ⟨W2, hW2⟩ : ∃ W2, W2 = (W1).drew := ⟨_, rfl⟩
  have hs2 : g1 + 1 ≤ W2.heap.size := by rw [hW2]; first | exact hs1 | omega | (simp; omega)
  rw [← hW2] at T2 I2 D2 B2 C2_ hS ⊢
  clear hW2 T1 I1 D1 B1 C1_ hs1
  refine tail_read 0 (oi := ⟨some 4, _, _, _, _, _⟩) (v := ?_) rfl (by kernel_rfl) (by kernel_rfl) (by kernel_rfl) (by kernel_rfl) (fun _ _ _ h => h) ⟨trivial, hS⟩ (Or.inl ⟨by rfl, ?_⟩) ?_
  rotate_left
  · (intro w' hSw; clear hSw; go_simp; try with_reducible rfl)
  simp only [Act.put, List.setIfInBounds_toArray, List.set_cons_zero, List.set_cons_succ]
  refine tail_read 1 (oi := ⟨some 5, _, _, _, _, _⟩) (v := ?_) rfl (by kernel_rfl) (by kernel_rfl) (by kernel_rfl) (by kernel_rfl) (fun _ _ _ h => h) ⟨trivial, hS⟩ (Or.inl ⟨by rfl, ?_⟩) ?_
  rotate_left
  · (intro w' hSw; clear hSw; go_simp; try with_reducible rfl)
  simp only [Act.put, List.setIfInBounds_toArray, List.set_cons_zero, List.set_cons_succ]
  refine tail_read 2 (oi := ⟨some 6, _, _, _, _, _⟩) (v := ?_) rfl (by kernel_rfl) (by kernel_rfl) (by kernel_rfl) (by kernel_rfl) (fun _ _ _ h => h) ⟨trivial, hS⟩ (Or.inl ⟨by rfl, ?_⟩) ?_
  rotate_left
  · (intro w' hSw; clear hSw; go_simp; try with_reducible rfl)
  simp only [Act.put, List.setIfInBounds_toArray, List.set_cons_zero, List.set_cons_succ]
  refine tail_read 3 (oi := ⟨some 7, _, _, _, _, _⟩) (v := ?_) rfl (by kernel_rfl) (by kernel_rfl) (by kernel_rfl) (by kernel_rfl) (fun _ _ _ h => h) ⟨trivial, hS⟩ (Or.inl ⟨by rfl, ?_⟩) ?_
  rotate_left
  · (intro w' hSw; clear hSw; go_simp; try with_reducible rfl)
  simp only [Act.put, List.setIfInBounds_toArray, List.set_cons_zero, List.set_cons_succ]
  refine tail_read 4 (oi := ⟨some 8, _, _, _, _, _⟩) (v := ?_) rfl (by kernel_rfl) (by kernel_rfl) (by kernel_rfl) (by kernel_rfl) (fun _ _ _ h => h) ⟨trivial, hS⟩ (Or.inl ⟨by rfl, ?_⟩) ?_
  rotate_left
  · (intro w' hSw; clear hSw; go_simp; try with_reducible rfl)
  simp only [Act.put, List.setIfInBounds_toArray, List.set_cons_zero, List.set_cons_succ]
  refine tail_read 5 (oi := ⟨some 9, _, _, _, _, _⟩) (v := ?_) rfl (by kernel_rfl) (by kernel_rfl) (by kernel_rfl) (by kernel_rfl) (fun _ _ _ h => h) ⟨trivial, hS⟩ (Or.inl ⟨by rfl, ?_⟩) ?_
  rotate_left
  · (intro w' hSw; clear hSw; go_simp; try with_reducible rfl)
  simp only [Act.put, List.setIfInBounds_toArray, List.set_cons_zero, List.set_cons_succ]
  refine tail_chain 6 [9, 10, 11, 12, 13, 14] (oi := ⟨some 10, _, _, _, _, _⟩) (v := ?_) rfl (by kernel_rfl) (by kernel_rfl) (by kernel_rfl) (by kernel_rfl) (fun _ _ _ h => h) ⟨trivial, hS⟩ (Or.inl ⟨by rfl, ?_⟩) ?_
  rotate_left
  · (intro w' hSw; have c0_1 := (hSw.1).get 1 (.slice g m d) rfl; clear hSw; go_simp; try with_reducible rfl)
  simp only [Act.put, List.setIfInBounds_toArray, List.set_cons_zero, List.set_cons_succ]
  refine tail_chain 7 [8, 9, 10, 11, 12, 13, 14] (oi := ⟨some 11, _, _, _, _, _⟩) (v := ?_) rfl (by kernel_rfl) (by kernel_rfl) (by kernel_rfl) (by kernel_rfl) (fun _ _ _ h => h) ⟨trivial, hS⟩ (Or.inl ⟨by rfl, ?_⟩) ?_
  rotate_left
  · (intro w' hSw; have c1_0 := (hSw.2).get 0 (.int .i64 i.k) rfl; have c1_1 := (hSw.2).get 1 (.int .i64 i.vm) rfl; have c1_2 := (hSw.2).get 2 (.int .i64 i.sp) rfl; have c1_3 := (hSw.2).get 3 (.int .i64 i.pg) rfl; clear hSw; go_simp; try with_reducible rfl)
  simp only [Act.put, List.setIfInBounds_toArray, List.set_cons_zero, List.set_cons_succ]
  refine tail_one 8 (o := ⟨some 12, _, _, _, _, _⟩) (by kernel_rfl) rfl (fun K hK => ?_)
  go_simp
  refine hK.out _ _ ?_ (fun hS' => ?_)
  · exact ⟨trivial, ⟨hS.1.alloc _, hS.2.alloc _⟩⟩
  clear hK K hS
  have hS := hS'.2
  clear hS'
  try simp only [Act.put, List.setIfInBounds_toArray, List.set_cons_zero, List.set_cons_succ]
  refine tail_one 9 (o := ⟨some 13, _, _, _, _, _⟩) (by kernel_rfl) rfl (fun K hK => ?_)
  refine step_rowRl (K := KI) rfl _ _ rfl base m 1 _ D [i] rfl (D2.out.alloc (.cells #[.int .i64 i.k, .int .i64 i.vm, .int .i64 i.sp, .int .i64 i.pg] 32)) HN.out (some ⟨W2.heap.size, 0, none⟩) 1 rfl rfl (RowsAt.one (K := KI) (q := i) ((BoxAt.newAt (W2) #[.int .i64 i.k, .int .i64 i.vm, .int .i64 i.sp, .int .i64 i.pg] 32 (W2.heap.size) (by first | omega | (simp; done) | (simp; omega))))) (fun h => by cases h) (by omega) (by first | omega | (simp; omega)) ?_
  intro f3a c3a w3 hO3 hg3
  have GG := Lib.hid ((grown_below (bel_alloc C2_.out (.cells #[.int .i64 i.k, .int .i64 i.vm, .int .i64 i.sp, .int .i64 i.pg] 32))).trans hg3)
  have GO := Lib.hid hO3
  have hz3 := hg3.size
  try simp at hz3
  have hSn : (fun w' => BoxAt w' (db) #[.slice f l c, .slice g m d] 73 ∧ BoxAt w' (g1) #[.int .i64 i.k, .int .i64 i.vm, .int .i64 i.sp, .int .i64 i.pg] 32) w3 := ⟨hS.1.grown hg3 ((D2.out.alloc (.cells #[.int .i64 i.k, .int .i64 i.vm, .int .i64 i.sp, .int .i64 i.pg] 32)).ne_box (T2.out.alloc (.cells #[.int .i64 i.k, .int .i64 i.vm, .int .i64 i.sp, .int .i64 i.pg] 32)) (by decide)), hS.2.grown hg3 (fun he => absurd (HDB.out _ he) (by omega))⟩
  have T3 := Lib.hid ((T2.out.alloc (.cells #[.int .i64 i.k, .int .i64 i.vm, .int .i64 i.sp, .int .i64 i.pg] 32)).grown hg3 ((D2.out.alloc (.cells #[.int .i64 i.k, .int .i64 i.vm, .int .i64 i.sp, .int .i64 i.pg] 32)).ne_box (T2.out.alloc (.cells #[.int .i64 i.k, .int .i64 i.vm, .int .i64 i.sp, .int .i64 i.pg] 32)) (by decide)))
  have I3 := Lib.hid ((I2.out.alloc (.cells #[.int .i64 i.k, .int .i64 i.vm, .int .i64 i.sp, .int .i64 i.pg] 32)).grown hg3 (fun he => absurd (HDB.out _ he) (by omega)))
  have D3 := Lib.hid (hO3)
  have B3 := Lib.hid ((B2.out.trans ((bel_alloc (Below.refl _ _) (.cells #[.int .i64 i.k, .int .i64 i.vm, .int .i64 i.sp, .int .i64 i.pg] 32)).mono (show base ≤ _ from (by first | omega | (simp; done) | (simp; omega))))).grown hg3 (show base ≤ _ by first | omega | (simp; omega)) (fun k hk => Nat.le_trans (show base ≤ base by omega) ((D2.out.alloc (.cells #[.int .i64 i.k, .int .i64 i.vm, .int .i64 i.sp, .int .i64 i.pg] 32)).blk k hk)))
  obtain ⟨g3, hgg3⟩ : ∃ g3, g3 = W2.heap.size := ⟨_, rfl⟩
  have hs3 : g3 + 1 ≤ w3.heap.size := by omega
  have hb3 : g1 + 1 ≤ g3 := by omega
  try rw [← hgg3]
  clear hgg3
  clear T2 I2 D2 B2 hg3 hO3 hz3 hs2
  refine hK.out _ _ ?_ (fun hS' => ?_)
  · exact ⟨trivial, hSn⟩
  clear hK K hS hSn
  have hS := hS'.2
  clear hS'
  try simp only [Act.put, List.setIfInBounds_toArray, List.set_cons_zero, List.set_cons_succ]
  refine tail_read 10 (oi := ⟨some 14, _, _, _, _, _⟩) (v := ?_) rfl (by kernel_rfl) (by kernel_rfl) (by kernel_rfl) (by kernel_rfl) (fun _ _ _ h => h) ⟨trivial, hS⟩ (Or.inl ⟨by rfl, ?_⟩) ?_
  rotate_left
  · (intro w' hSw; clear hSw; go_simp; try with_reducible rfl)
  simp only [Act.put, List.setIfInBounds_toArray, List.set_cons_zero, List.set_cons_succ]
  refine tail_read 11 (oi := ⟨some 15, _, _, _, _, _⟩) (v := ?_) rfl (by kernel_rfl) (by kernel_rfl) (by kernel_rfl) (by kernel_rfl) (fun _ _ _ h => h) ⟨trivial, hS⟩ (Or.inl ⟨by rfl, ?_⟩) ?_
  rotate_left
  · (intro w' hSw; clear hSw; go_simp; try with_reducible rfl)
  simp only [Act.put, List.setIfInBounds_toArray, List.set_cons_zero, List.set_cons_succ]
  refine tail_read 12 (oi := ⟨some 16, _, _, _, _, _⟩) (v := ?_) rfl (by kernel_rfl) (by kernel_rfl) (by kernel_rfl) (by kernel_rfl) (fun _ _ _ h => h) ⟨trivial, hS⟩ (Or.inl ⟨by rfl, ?_⟩) ?_
  rotate_left
  · (intro w' hSw; clear hSw; go_simp; try with_reducible rfl)
  simp only [Act.put, List.setIfInBounds_toArray, List.set_cons_zero, List.set_cons_succ]
  refine tail_read 13 (oi := ⟨some 17, _, _, _, _, _⟩) (v := ?_) rfl (by kernel_rfl) (by kernel_rfl) (by kernel_rfl) (by kernel_rfl) (fun _ _ _ h => h) ⟨trivial, hS⟩ (Or.inl ⟨by rfl, ?_⟩) ?_
  rotate_left
  · (intro w' hSw; clear hSw; go_simp; try with_reducible rfl)
  simp only [Act.put, List.setIfInBounds_toArray, List.set_cons_zero, List.set_cons_succ]
  refine tail_last 14 (o := ⟨none, _, _, _, _, _⟩) (by decide) (by kernel_rfl) rfl (fun K hK => ?_)
  have zs0 := T3.out.free 1
  have cs0 := T3.out.get 1 (.slice g m d) rfl
  go_simp
  clear zs0 cs0
  refine hK.out _ _ trivial ?_
  clear hK K
  try simp only [Act.put, List.setIfInBounds_toArray, List.set_cons_zero, List.set_cons_succ]
  refine tail_done (by kernel_rfl) ?_
  clear hS
  have T4 := Lib.hid ((T3.out.set 1 (.slice f3a (m + 1) c3a) #[.slice f l c, .slice f3a (m + 1) c3a] rfl))
  have I4 := Lib.hid ((I3.out.other ⟨db, 1, none⟩ (.slice f3a (m + 1) c3a) (show g1 ≠ db by omega)))
  have D4 := Lib.hid ((D3.out.otherN ⟨db, 1, none⟩ (.slice f3a (m + 1) c3a) (D3.out.ne_box T3.out (by decide))))
  have B4 := Lib.hid ((Below.setCell B3.out (p := ⟨db, 1, none⟩) (show base ≤ db by omega) (.slice f3a (m + 1) c3a)))
  obtain ⟨W4, hW4⟩ : ∃ W4, W4 = (w3).setCell ⟨db, 1, none⟩ (.slice f3a (m + 1) c3a) := ⟨_, rfl⟩
  have hs4 : g3 + 1 ≤ W4.heap.size := by rw [hW4]; first | (simp [World.setCell]; omega) | (simp [World.setCell, World.setRow]; omega) | exact hs3
  rw [← hW4] at T4 I4 D4 B4 ⊢
  have HW4 := Lib.hid hW4
  clear hW4 T3 I3 D3 B3 hs3
  go_wp2
  go_end0
  exact ⟨f3a, c3a, _, rfl, GO.out, GG.out, HW4.out⟩
set_option maxRecDepth 100000 in
set_option maxHeartbeats 3200000 in
theorem isfull_any (f g : Option Addr) (l c m d : Nat) (w : World) :
    Calls Try.prog 50 #[.agg #[.slice f l c, .slice g m d]] w fun q w' => q = .returned (.bool (decide (8 ≤ (m : Int)))) ∧ Below w.heap.size w w' := by
  obtain ⟨fu, hfu⟩ : ∃ fu, fu = decide (8 ≤ (m : Int)) := ⟨_, rfl⟩
  have hfu2 := hfu.symm
  rw [← hfu]
  clear hfu
  have htw : w.heap.size ≤ w.heap.size := Nat.le_refl _
  have B0 := Lib.hid (Below.refl w.heap.size w)
  go_enter Try.func50, Try.ntmps50
  go_upto_region 1 with fail
  have A1 := Lib.hid ((BoxAt.newAt (w) #[.slice f l c, .slice g m d] 71 (w.heap.size) (by first | omega | (simp; done) | (simp; omega))))
  have B1 := Lib.hid ((bel_alloc B0.out (.cells #[.slice f l c, .slice g m d] 71)))
  obtain ⟨g1, hg1⟩ : ∃ g1, g1 = w.heap.size := ⟨_, rfl⟩
  obtain ⟨W1, hW1⟩ : ∃ W1, W1 = (w).alloc (.cells #[.slice f l c, .slice g m d] 71) := ⟨_, rfl⟩
  have hs1 : g1 + 1 ≤ W1.heap.size := by rw [hW1, hg1]; simp
  rw [← hW1] at A1 B1 ⊢
  have hb1 : w.heap.size ≤ g1 := by omega
  rw [← hg1] at A1 ⊢
  clear hg1
  clear hW1 B0
  have Ac1 := A1.out.get 1 (.slice g m d) rfl
  go_wp2
  all_goals
    go_ret
    exact ⟨rfl, B1.out⟩
/-- What Later tells. -/
def laterR (E : List Ety) (D : List Inv) (i : Inv) : List Ety × List Inv × Int := if (mayT E D && mayIn i) = true then (if decide (8 ≤ (D.length : Int)) = true then ([], [], 5) else (E, D ++ [i], 0)) else ([], [], 1)
set_option maxRecDepth 100000 in
set_option maxHeartbeats 3200000 in
theorem laterC (f g : Option Addr) (l c m d : Nat) (E : List Ety) (D : List Inv) (i : Inv) (w : World) (hE : RowsAt KE w f E) (hl : l = E.length) (hD : RowsAt KI w g D) (hm : m = D.length) (hls : l ≤ 90000) (hms : m ≤ 90000) (hc : l ≤ c) (hc2 : c ≤ maxLen) (hf : f = none → c = 0) (hg : g = none → d = 0) :
    Calls Try.prog 28 #[.agg #[.slice f l c, .slice g m d], invV i] w (EndF w (laterR E D i)) := by
  have HM := Lib.hid (fun W (hB : Below w.heap.size w W) => storemay_any f g l c m d E D W (hE.below hB) hl (hD.below hB) hm hls hms hc hc2)
  have HV := Lib.hid (fun b W (hR : RowsAt KI W (some ⟨b, 0, none⟩) [i]) => maybe_any (some ⟨b, 0, none⟩) 1 1 [i] W hR rfl (by decide) (Nat.le_refl _) (by decide))
  rw [show allV [i] = mayIn i from by simp [allV]] at HV
  have HC := Lib.hid (fun W (hB : Below w.heap.size w W) => draft_any f g l c m d E D W (hE.below hB) hl (hD.below hB) hm hls hms hf hg)
  have HOW := Lib.hid (fun f' g' c' d' db W (hT : BoxAt W db #[.slice f' l c', .slice g' m d'] 73) (hO : OwnR KI W w.heap.size (.slice g' m d') D) (hB : Below w.heap.size w W) (hdb : w.heap.size ≤ db) => owe_any f' g' l c' m d' db w.heap.size D i W hT hO hms hB.size hdb)
  have HFU := Lib.hid (fun f' g' l' c' d' W => isfull_any f' g' l' c' m d' W)
  have HDL := Lib.hid hm
  have HEL := Lib.hid hl
  unfold EndT at HC
  rw [← hl, ← hm] at HC
  unfold EndO invV invC at HOW
  unfold laterR EndF
  rw [← hm]
  clear hE hl hD hm hf hg hc hc2
  generalize mayT E D = qm at *
  generalize mayIn i = qi at *
  generalize decide (8 ≤ (m : Int)) = fu at *
  unfold invV invC
  have htw : w.heap.size ≤ w.heap.size := Nat.le_refl _
  have B0 := Lib.hid (Below.refl w.heap.size w)
  go_enter Try.func28, Try.ntmps28
  go_upto_region 1 with fail
  have A1 := Lib.hid ((((BoxAt.newAt (w) #[.slice f l c, .slice g m d] 43 (w.heap.size) (by first | omega | (simp; done) | (simp; omega))).alloc (.cells #[.int .i64 i.k, .int .i64 i.vm, .int .i64 i.sp, .int .i64 i.pg] 32)).alloc (.cells #[.slice none 0 0, .slice none 0 0] 43)))
  have I1 := Lib.hid (((BoxAt.newAt ((w).alloc (.cells #[.slice f l c, .slice g m d] 43)) #[.int .i64 i.k, .int .i64 i.vm, .int .i64 i.sp, .int .i64 i.pg] 32 (w.heap.size + 1) (by first | omega | (simp; done) | (simp; omega))).alloc (.cells #[.slice none 0 0, .slice none 0 0] 43)))
  have R1 := Lib.hid ((BoxAt.newAt (((w).alloc (.cells #[.slice f l c, .slice g m d] 43)).alloc (.cells #[.int .i64 i.k, .int .i64 i.vm, .int .i64 i.sp, .int .i64 i.pg] 32)) #[.slice none 0 0, .slice none 0 0] 43 (w.heap.size + 1 + 1) (by first | omega | (simp; done) | (simp; omega))))
  have B1 := Lib.hid ((bel_alloc (bel_alloc (bel_alloc B0.out (.cells #[.slice f l c, .slice g m d] 43)) (.cells #[.int .i64 i.k, .int .i64 i.vm, .int .i64 i.sp, .int .i64 i.pg] 32)) (.cells #[.slice none 0 0, .slice none 0 0] 43)))
  obtain ⟨g1, hg1⟩ : ∃ g1, g1 = w.heap.size := ⟨_, rfl⟩
  obtain ⟨W1, hW1⟩ : ∃ W1, W1 = (((w).alloc (.cells #[.slice f l c, .slice g m d] 43)).alloc (.cells #[.int .i64 i.k, .int .i64 i.vm, .int .i64 i.sp, .int .i64 i.pg] 32)).alloc (.cells #[.slice none 0 0, .slice none 0 0] 43) := ⟨_, rfl⟩
  have hs1 : g1 + 1 + 1 + 1 ≤ W1.heap.size := by rw [hW1, hg1]; simp
  rw [← hW1] at A1 I1 R1 B1 ⊢
  have hb1 : w.heap.size ≤ g1 := by omega
  rw [← hg1] at A1 I1 R1 ⊢
  clear hg1
  clear hW1 B0
  have Ac0 := A1.out.get 0 (.slice f l c) rfl
  have Ac1 := A1.out.get 1 (.slice g m d) rfl
  go_upto_region 2 with fail
  clear Ac0 Ac1
  have A2 := Lib.hid ((A1.out.alloc (.cells #[.slice f l c, .slice g m d] 71)))
  have I2 := Lib.hid ((I1.out.alloc (.cells #[.slice f l c, .slice g m d] 71)))
  have R2 := Lib.hid ((R1.out.alloc (.cells #[.slice f l c, .slice g m d] 71)))
  have S2 := Lib.hid ((BoxAt.newAt (W1) #[.slice f l c, .slice g m d] 71 (W1.heap.size) (by first | omega | (simp; done) | (simp; omega))))
  have B2 := Lib.hid ((bel_alloc B1.out (.cells #[.slice f l c, .slice g m d] 71)))
  obtain ⟨g2, hg2⟩ : ∃ g2, g2 = W1.heap.size := ⟨_, rfl⟩
  obtain ⟨W2, hW2⟩ : ∃ W2, W2 = (W1).alloc (.cells #[.slice f l c, .slice g m d] 71) := ⟨_, rfl⟩
  have hs2 : g2 + 1 ≤ W2.heap.size := by rw [hW2, hg2]; simp
  rw [← hW2] at A2 I2 R2 S2 B2 ⊢
  have hb2 : g1 + 1 + 1 + 1 ≤ g2 := by omega
  rw [← hg2] at S2 ⊢
  clear hg2
  clear hW2 A1 I1 R1 B1 hs1
  have Sc0 := S2.out.get 0 (.slice f l c) rfl
  have Sc1 := S2.out.get 1 (.slice g m d) rfl
  go_wp2_with fail
  refine (HM.out _ B2.out).mono ?_
  rintro e w3 ⟨rfl, hb3⟩
  have hz3 := hb3.size
  have A3 := Lib.hid (A2.out.below hb3)
  have I3 := Lib.hid (I2.out.below hb3)
  have R3 := Lib.hid (R2.out.below hb3)
  have S3 := Lib.hid (S2.out.below hb3)
  have B3 := Lib.hid ((bel_trans B2.out hb3))
  skip
  have hs3 : g2 + 1 ≤ w3.heap.size := by omega
  clear Sc0 Sc1
  clear A2 I2 R2 S2 B2 hs2 hb3 hz3
  cases hq4 : qm
  · go_wp2_with (refine wpList_storeB rfl 43 _ _ rfl (g1 + 1 + 1) #[.slice none 0 0, .slice none 0 0] _ 43 rfl rfl (by kernel_rfl) (by rfl) (by simp [Value.oneCell']) R3.out ?_)
    all_goals
      have RR := (R3.out.put (cs' := #[.slice none 0 0, .slice none 0 0]))
      refine bodyPost_ret (v := .tuple #[.agg #[.slice none 0 0, .slice none 0 0], .int .i64 1]) (by simp [results, Try.results28, go_sem, RR.get 0 (.slice none 0 0) rfl, RR.get 1 (.slice none 0 0) rfl]) rfl ?_
      first | exact ⟨none, 0, 0, none, 0, 0, rfl, rfl, rfl, OwnR.nil _ _, OwnR.nil _ _, (Below.rowB (g := g1 + 1 + 1) B3.out (cs := #[.slice none 0 0, .slice none 0 0]) (show w.heap.size ≤ g1 + 1 + 1 by omega))⟩ | (simp [hq4]; exact ⟨none, 0, 0, none, 0, 0, ⟨⟨rfl, rfl, rfl⟩, rfl, rfl, rfl⟩, rfl, rfl, OwnR.nil _ _, OwnR.nil _ _, (Below.rowB (g := g1 + 1 + 1) B3.out (cs := #[.slice none 0 0, .slice none 0 0]) (show w.heap.size ≤ g1 + 1 + 1 by omega))⟩)
  have Ic0 := I3.out.get 0 (.int .i64 i.k) rfl
  have Ic1 := I3.out.get 1 (.int .i64 i.vm) rfl
  have Ic2 := I3.out.get 2 (.int .i64 i.sp) rfl
  have Ic3 := I3.out.get 3 (.int .i64 i.pg) rfl
  go_wp2_with fail
  refine (HV.out (w3.heap.size) _ (RowsAt.one (K := KI) (q := i) ((BoxAt.newAt (w3) #[.int .i64 i.k, .int .i64 i.vm, .int .i64 i.sp, .int .i64 i.pg] 32 (w3.heap.size) (by first | omega | (simp; done) | (simp; omega)))))).mono ?_
  rintro e w5 ⟨rfl, hb5⟩
  obtain ⟨g5, hg5⟩ : ∃ g5, g5 = w3.heap.size := ⟨_, rfl⟩
  have hz5 := hb5.size
  have A5 := Lib.hid ((A3.out.alloc (.cells #[.int .i64 i.k, .int .i64 i.vm, .int .i64 i.sp, .int .i64 i.pg] 32)).below hb5)
  have I5 := Lib.hid ((I3.out.alloc (.cells #[.int .i64 i.k, .int .i64 i.vm, .int .i64 i.sp, .int .i64 i.pg] 32)).below hb5)
  have R5 := Lib.hid ((R3.out.alloc (.cells #[.int .i64 i.k, .int .i64 i.vm, .int .i64 i.sp, .int .i64 i.pg] 32)).below hb5)
  have S5 := Lib.hid ((S3.out.alloc (.cells #[.int .i64 i.k, .int .i64 i.vm, .int .i64 i.sp, .int .i64 i.pg] 32)).below hb5)
  have S155 := Lib.hid ((BoxAt.newAt (w3) #[.int .i64 i.k, .int .i64 i.vm, .int .i64 i.sp, .int .i64 i.pg] 32 (w3.heap.size) (by first | omega | (simp; done) | (simp; omega))).below hb5)
  have B5 := Lib.hid ((bel_trans (bel_alloc B3.out (.cells #[.int .i64 i.k, .int .i64 i.vm, .int .i64 i.sp, .int .i64 i.pg] 32)) hb5))
  try simp at hz5
  have hs5 : g5 + 1 ≤ w5.heap.size := by omega
  have hb'5 : g2 + 1 ≤ g5 := by omega
  rw [← hg5] at S155
  try rw [← hg5]
  clear hg5
  clear Ic0 Ic1 Ic2 Ic3
  clear A3 I3 R3 S3 B3 hs3 hb5 hz5
  cases hq6 : qi
  · go_wp2_with (refine wpList_storeB rfl 43 _ _ rfl (g1 + 1 + 1) #[.slice none 0 0, .slice none 0 0] _ 43 rfl rfl (by kernel_rfl) (by rfl) (by simp [Value.oneCell']) R5.out ?_)
    all_goals
      have RR := (R5.out.put (cs' := #[.slice none 0 0, .slice none 0 0]))
      refine bodyPost_ret (v := .tuple #[.agg #[.slice none 0 0, .slice none 0 0], .int .i64 1]) (by simp [results, Try.results28, go_sem, RR.get 0 (.slice none 0 0) rfl, RR.get 1 (.slice none 0 0) rfl]) rfl ?_
      first | exact ⟨none, 0, 0, none, 0, 0, rfl, rfl, rfl, OwnR.nil _ _, OwnR.nil _ _, (Below.rowB (g := g1 + 1 + 1) B5.out (cs := #[.slice none 0 0, .slice none 0 0]) (show w.heap.size ≤ g1 + 1 + 1 by omega))⟩ | (simp [hq4, hq6]; exact ⟨none, 0, 0, none, 0, 0, ⟨⟨rfl, rfl, rfl⟩, rfl, rfl, rfl⟩, rfl, rfl, OwnR.nil _ _, OwnR.nil _ _, (Below.rowB (g := g1 + 1 + 1) B5.out (cs := #[.slice none 0 0, .slice none 0 0]) (show w.heap.size ≤ g1 + 1 + 1 by omega))⟩)
  have Sc0 := S5.out.get 0 (.slice f l c) rfl
  have Sc1 := S5.out.get 1 (.slice g m d) rfl
  go_wp2_with fail
  refine (HC.out _ B5.out).mono ?_
  rintro e w7 ⟨f7, c7, g7, d7, rfl, hE7, hD7, hb7⟩
  have HIB7 := Lib.hid (fun k hk => Nat.lt_of_lt_of_le (I5.out).lt (hD7.blk k hk))
  have OE7 := Lib.hid (OwnR.mono hE7 (base' := w.heap.size) (by first | omega | (simp; done) | (simp; omega)))
  have OD7 := Lib.hid (OwnR.mono hD7 (base' := w.heap.size) (by first | omega | (simp; done) | (simp; omega)))
  clear hE7 hD7
  have hz7 := hb7.size
  have A7 := Lib.hid (A5.out.below hb7)
  have I7 := Lib.hid (I5.out.below hb7)
  have R7 := Lib.hid (R5.out.below hb7)
  have S7 := Lib.hid (S5.out.below hb7)
  have S157 := Lib.hid (S155.out.below hb7)
  have B7 := Lib.hid ((bel_trans B5.out hb7))
  skip
  have hs7 : g5 + 1 ≤ w7.heap.size := by omega
  clear Sc0 Sc1
  clear A5 I5 R5 S5 S155 B5 hs5 hb7 hz7
  go_upto_region 5 with fail
  have A8 := Lib.hid ((A7.out.alloc (.cells #[.slice f7 l c7, .slice g7 m d7] 73)))
  have I8 := Lib.hid ((I7.out.alloc (.cells #[.slice f7 l c7, .slice g7 m d7] 73)))
  have R8 := Lib.hid ((R7.out.alloc (.cells #[.slice f7 l c7, .slice g7 m d7] 73)))
  have S8 := Lib.hid ((S7.out.alloc (.cells #[.slice f7 l c7, .slice g7 m d7] 73)))
  have S158 := Lib.hid ((S157.out.alloc (.cells #[.slice f7 l c7, .slice g7 m d7] 73)))
  have T8 := Lib.hid ((BoxAt.newAt (w7) #[.slice f7 l c7, .slice g7 m d7] 73 (w7.heap.size) (by first | omega | (simp; done) | (simp; omega))))
  have E8 := Lib.hid ((OE7.out.alloc (.cells #[.slice f7 l c7, .slice g7 m d7] 73)))
  have D8 := Lib.hid ((OD7.out.alloc (.cells #[.slice f7 l c7, .slice g7 m d7] 73)))
  have B8 := Lib.hid ((bel_alloc B7.out (.cells #[.slice f7 l c7, .slice g7 m d7] 73)))
  obtain ⟨g8, hg8⟩ : ∃ g8, g8 = w7.heap.size := ⟨_, rfl⟩
  obtain ⟨W8, hW8⟩ : ∃ W8, W8 = (w7).alloc (.cells #[.slice f7 l c7, .slice g7 m d7] 73) := ⟨_, rfl⟩
  have hs8 : g8 + 1 ≤ W8.heap.size := by rw [hW8, hg8]; simp
  rw [← hW8] at A8 I8 R8 S8 S158 T8 E8 D8 B8 ⊢
  have hb8 : g5 + 1 ≤ g8 := by omega
  rw [← hg8] at T8 ⊢
  clear hg8
  clear hW8 A7 I7 R7 S7 S157 OE7 OD7 B7 hs7
  have Tc0 := T8.out.get 0 (.slice f7 l c7) rfl
  have Tc1 := T8.out.get 1 (.slice g7 m d7) rfl
  go_wp2_with fail
  refine (HFU.out f7 g7 l c7 d7 _).mono ?_
  rintro e w9 ⟨rfl, hb9⟩
  have hz9 := hb9.size
  have A9 := Lib.hid (A8.out.below hb9)
  have I9 := Lib.hid (I8.out.below hb9)
  have R9 := Lib.hid (R8.out.below hb9)
  have S9 := Lib.hid (S8.out.below hb9)
  have S159 := Lib.hid (S158.out.below hb9)
  have T9 := Lib.hid (T8.out.below hb9)
  have E9 := Lib.hid (E8.out.below hb9)
  have D9 := Lib.hid (D8.out.below hb9)
  have B9 := Lib.hid ((bel_trans B8.out hb9))
  skip
  have hs9 : g8 + 1 ≤ w9.heap.size := by omega
  clear Tc0 Tc1
  clear A8 I8 R8 S8 S158 T8 E8 D8 B8 hs8 hb9 hz9
  cases hq10 : fu
  · have Ic0 := I9.out.get 0 (.int .i64 i.k) rfl
    have Ic1 := I9.out.get 1 (.int .i64 i.vm) rfl
    have Ic2 := I9.out.get 2 (.int .i64 i.sp) rfl
    have Ic3 := I9.out.get 3 (.int .i64 i.pg) rfl
    go_wp2_with fail
    refine (HOW.out f7 g7 c7 d7 (g8) _ T9.out D9.out B9.out (by omega)).mono ?_
    rintro e w11 hp11
    obtain ⟨u11, e11, v11, rfl, hO11, hg11, rfl⟩ := hp11
    have hz11 := hg11.size
    clear Ic0 Ic1 Ic2 Ic3
    clear S159
    go_upto_region 8 with fail
    have A12 := Lib.hid (((A9.out.grown hg11 (D9.out.ne_box A9.out (by decide))).other ⟨g8, 1, none⟩ (.slice u11 (m + 1) e11) (show g1 ≠ g8 by omega)))
    have I12 := Lib.hid (((I9.out.grown hg11 (fun he => absurd (HIB7.out _ he) (by omega))).other ⟨g8, 1, none⟩ (.slice u11 (m + 1) e11) (show g1 + 1 ≠ g8 by omega)))
    have R12 := Lib.hid (((R9.out.grown hg11 (D9.out.ne_box R9.out (by decide))).other ⟨g8, 1, none⟩ (.slice u11 (m + 1) e11) (show g1 + 1 + 1 ≠ g8 by omega)))
    have S12 := Lib.hid (((S9.out.grown hg11 (D9.out.ne_box S9.out (by decide))).other ⟨g8, 1, none⟩ (.slice u11 (m + 1) e11) (show g2 ≠ g8 by omega)))
    have T12 := Lib.hid (((T9.out.grown hg11 (D9.out.ne_box T9.out (by decide))).set 1 (.slice u11 (m + 1) e11) #[.slice f7 l c7, .slice u11 (m + 1) e11] rfl))
    have E12 := Lib.hid (((E9.out.grownO D9.out (by decide) hg11).otherN ⟨g8, 1, none⟩ (.slice u11 (m + 1) e11) ((E9.out.grownO D9.out (by decide) hg11).ne_box (T9.out.grown hg11 (D9.out.ne_box T9.out (by decide))) (by decide))))
    have D12 := Lib.hid ((hO11.otherN ⟨g8, 1, none⟩ (.slice u11 (m + 1) e11) (hO11.ne_box (T9.out.grown hg11 (D9.out.ne_box T9.out (by decide))) (by decide))))
    have B12 := Lib.hid ((Below.setCell (B9.out.grown hg11 (by first | omega | (simp; omega)) (fun k hk => Nat.le_trans (show w.heap.size ≤ w.heap.size by omega) (D9.out.blk k hk))) (p := ⟨g8, 1, none⟩) (show w.heap.size ≤ g8 by omega) (.slice u11 (m + 1) e11)))
    obtain ⟨W12, hW12⟩ : ∃ W12, W12 = (v11).setCell ⟨g8, 1, none⟩ (.slice u11 (m + 1) e11) := ⟨_, rfl⟩
    have hs12 : g8 + 1 ≤ W12.heap.size := by rw [hW12]; first | (simp [World.setCell]; omega) | (simp [World.setCell, World.setRow]; omega) | exact hs9
    rw [← hW12] at A12 I12 R12 S12 T12 E12 D12 B12 ⊢
    clear hW12 A9 I9 R9 S9 T9 E9 D9 B9 hs9
    have Tc0 := T12.out.get 0 (.slice f7 l c7) rfl
    have Tc1 := T12.out.get 1 (.slice u11 (m + 1) e11) rfl
    go_wp2_with (refine wpList_storeB rfl 43 _ _ rfl (g1 + 1 + 1) #[.slice f7 l c7, .slice u11 (m + 1) e11] _ 43 rfl rfl (by kernel_rfl) (by rfl) (by simp [Value.oneCell']) R12.out ?_)
    all_goals
      have RR := (R12.out.put (cs' := #[.slice f7 l c7, .slice u11 (m + 1) e11]))
      refine bodyPost_ret (v := .tuple #[.agg #[.slice f7 l c7, .slice u11 (m + 1) e11], .int .i64 0]) (by simp [results, Try.results28, go_sem, RR.get 0 (.slice f7 l c7) rfl, RR.get 1 (.slice u11 (m + 1) e11) rfl]) rfl ?_
      exact ⟨f7, l, c7, u11, m + 1, e11, rfl, HEL.out, by simp; exact HDL.out, (E12.out.rowN (g := g1 + 1 + 1) (cs := #[.slice f7 l c7, .slice u11 (m + 1) e11]) (E12.out.ne_box R12.out (by decide))), (D12.out.rowN (g := g1 + 1 + 1) (cs := #[.slice f7 l c7, .slice u11 (m + 1) e11]) (D12.out.ne_box R12.out (by decide))), (Below.rowB (g := g1 + 1 + 1) B12.out (cs := #[.slice f7 l c7, .slice u11 (m + 1) e11]) (show w.heap.size ≤ g1 + 1 + 1 by omega))⟩
  go_wp2_with (refine wpList_storeB rfl 43 _ _ rfl (g1 + 1 + 1) #[.slice none 0 0, .slice none 0 0] _ 43 rfl rfl (by kernel_rfl) (by rfl) (by simp [Value.oneCell']) R9.out ?_)
  all_goals
    have RR := (R9.out.put (cs' := #[.slice none 0 0, .slice none 0 0]))
    refine bodyPost_ret (v := .tuple #[.agg #[.slice none 0 0, .slice none 0 0], .int .i64 5]) (by simp [results, Try.results28, go_sem, RR.get 0 (.slice none 0 0) rfl, RR.get 1 (.slice none 0 0) rfl]) rfl ?_
    first | exact ⟨none, 0, 0, none, 0, 0, rfl, rfl, rfl, OwnR.nil _ _, OwnR.nil _ _, (Below.rowB (g := g1 + 1 + 1) B9.out (cs := #[.slice none 0 0, .slice none 0 0]) (show w.heap.size ≤ g1 + 1 + 1 by omega))⟩ | (simp [hq4, hq6, hq10]; exact ⟨none, 0, 0, none, 0, 0, ⟨⟨rfl, rfl, rfl⟩, rfl, rfl, rfl⟩, rfl, rfl, OwnR.nil _ _, OwnR.nil _ _, (Below.rowB (g := g1 + 1 + 1) B9.out (cs := #[.slice none 0 0, .slice none 0 0]) (show w.heap.size ≤ g1 + 1 + 1 by omega))⟩)
end
end Go.Proofs.Ytjohnpbfdpmajaa
