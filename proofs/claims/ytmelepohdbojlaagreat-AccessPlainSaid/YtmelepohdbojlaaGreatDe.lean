/- The reference's Word: contracts. -/
import Derived.Test.YtmelepohdbojlaaGreatDd
import Derived.Test.YtmelepohdbojlaaGreatSq
import Derived.Test.YtmelepohdbojlaaGreatRj
set_option linter.all false
namespace Go.Proofs.YtmelepohdbojlaaGreat
open Go.ChangeShapes Go.WideShapes Go.ChangeAt Go.RowKit Go.Deep
theorem ne_box {w : World} {base g n c b : Nat} {L : List Fld} {cs : Array Value} (h : OwnL w base (.slice (some ⟨g, 0, none⟩) n c) L) (hb : BoxAt w b cs 101) : b ≠ g := by
 rintro rfl
 rcases h.2 with ⟨h0, _⟩ | ⟨g', cap, cur, h0, _, hh, _⟩
 ·cases h0
 ·simp only [Value.slice.injEq, Option.some.injEq, Addr.mk.injEq] at h0
  rw [← h0.1.1, hb.h] at hh
  simp at hh
def Joins (L : List Fld) (m : Nat) (q : BitVec 64 × BitVec 64 × Int) : Prop := ∀ g c W, FldsAt W (some ⟨g, 0, none⟩) m (nth L) →
 Calls Tryz.prog 120 #[.slice (some ⟨g, 0, none⟩) m c] W fun e w' => e = .returned (.tuple #[.int .u64 (u q.2.1), .int .u64 (u q.1), .int .i64 q.2.2]) ∧ Below W.heap.size W w'
theorem joins_of (L : List Fld) (h : L.length ≤ 8) : Joins L L.length (joinL L) := fun g c W hf =>
 rjoin_any (some ⟨g, 0, none⟩) L.length c (nth L) W (by omega) hf
theorem word_none (st lv : Int) (d : Dsc) (hk : d.k = 0) (h0 : 0 ≤ d.o) (h1 : d.o ≤ 15) : wordD st lv d = (numFl 4 4 d.o).v <<< 4 := by
 have hok : okF (numFl 4 4 d.o) = true := ok_num 4 4 d.o (by omega) (by omega) (by omega) (by omega) (by omega) (by rw [show u (msk 4) = 15 from by decide]; omega)
 unfold wordD fieldsL joinL
 rw [if_pos hk]
 unfold layR
 rw [if_pos (fun j hj => by
  have : j = 0 := by simp at hj; omega
  subst this; exact hok)]
 show (layFrom (nth [numFl 4 4 d.o]) 1 0 0#64 0#64).2.1 = _
 rw [layFrom_yes (by simp), layFrom_done]
 simp [nth, numFl, bitF]
theorem rword_none (st lv f : Int) (r wr x a n : Bool) (s o : Int) (w : World) :
  Calls Tryz.prog 96 #[.int .i64 st, .int .i64 lv, .agg #[.int .i64 0, .int .i64 f, .bool r, .bool wr, .bool x, .bool a, .bool n, .int .i64 s, .int .i64 o]] w fun e w' => e = .returned (.int .u64 (u ((numFl 4 4 o).v <<< 4))) ∧ Below w.heap.size w w' := by
 have hv : IntKind.u64.wrap o = u (numFl 4 4 o).v := u_conv o
 go_enter Tryz.func96, Tryz.ntmps96
 go_wp2
 go_ret
 refine ⟨ret_int ?_, by go_grown⟩
 exact u_shl _ 4
set_option maxRecDepth 100000 in
set_option maxHeartbeats 3200000 in
theorem rword_table (st lv f : Int) (r wr x a n : Bool) (s o : Int) (w : World) (q : BitVec 64 × BitVec 64 × Int) (HJ : Hid (Joins [bitFl 0 true, bitFl 1 true, numFl 12 12 f] 3 q)) (HS : Hid (SmallL [bitFl 0 true, bitFl 1 true, numFl 12 12 f])) :
  Calls Tryz.prog 96 #[.int .i64 st, .int .i64 lv, .agg #[.int .i64 1, .int .i64 f, .bool r, .bool wr, .bool x, .bool a, .bool n, .int .i64 s, .int .i64 o]] w fun e w' => e = .returned (.int .u64 (u q.2.1)) ∧ Below w.heap.size w w' := by
 have hBX := BoxAt.new w #[.int .i64 1, .int .i64 f, .bool r, .bool wr, .bool x, .bool a, .bool n, .int .i64 s, .int .i64 o] 101
 have hv : IntKind.u64.wrap f = u (numFl 12 12 f).v := u_conv f
 go_enter Tryz.func96, Tryz.ntmps96
 go_wp2_with fail
 refine wp_region_held_drew (S := fun w' => BoxAt w' w.heap.size #[.int .i64 1, .int .i64 f, .bool r, .bool wr, .bool x, .bool a, .bool n, .int .i64 s, .int .i64 o] 101) (by kernel_rfl) (hBX.drew) (fun hS => ?_)
 refine tkR 1 19 rfl hS (fun w' hSw => by have sA := hSw.cell; clear hSw; go_simp; try with_reducible rfl) ?_
 simp only [pA, pB, pC]
 refine tkR 2 20 rfl hS (fun w' hSw => by have sA := hSw.cell; clear hSw; go_simp; try with_reducible rfl) ?_
 simp only [pA, pB, pC]
 refine tkR 3 21 rfl hS (fun w' hSw => by have sA := hSw.cell; clear hSw; go_simp; try with_reducible rfl) ?_
 simp only [pA, pB, pC]
 refine tkR 9 27 rfl hS (fun w' hSw => by have sA := hSw.cell; clear hSw; go_simp; try with_reducible rfl) ?_
 simp only [pA, pB, pC]
 refine tkR 10 28 rfl hS (fun w' hSw => by have sA := hSw.cell; clear hSw; go_simp; try with_reducible rfl) ?_
 simp only [pA, pB, pC]
 refine tkR 11 29 rfl hS (fun w' hSw => by have sA := hSw.cell; clear hSw; go_simp; try with_reducible rfl) ?_
 simp only [pA, pB, pC]
 refine tkR 12 30 rfl hS (fun w' hSw => by have sA := hSw.cell; clear hSw; go_simp; try with_reducible rfl) ?_
 simp only [pA, pB, pC]
 refine wpAnyH_ready (rs := [0]) (by kernel_rfl) (by simp) ?_
 refine AllReadyH.cons (o := ⟨some 18, _, _, _, _, _⟩) rfl (fun K hK => ?_) AllReadyH.nil
 go_simp
 refine (bit_any _ _ _).mono ?_
 rintro e w100 ⟨rfl, hb100⟩
 refine hK.out _ _ ?_ (fun hS' => ?_)
 ·(exact hS.below hb100)
 clear hK K hS
 have hS := hS'
 clear hS'
 try simp only [Act.put, List.setIfInBounds_toArray, List.set_cons_zero, List.set_cons_succ]
 refine tkR 4 22 rfl hS (fun w' hSw => by have sA := hSw.cell; clear hSw; go_simp; try with_reducible rfl) ?_
 simp only [pA, pB, pC]
 refine tkU 5 23 rfl hS ?_
 simp only [pA, pB, pC]
 refine tkU 6 24 rfl hS ?_
 simp only [pA, pB, pC]
 refine tkR 7 25 rfl hS (fun w' hSw => by have sA := hSw.cell; clear hSw; go_simp; try with_reducible rfl) ?_
 simp only [pA, pB, pC]
 refine wpAnyH_ready (rs := [8]) (by kernel_rfl) (by simp) ?_
 refine AllReadyH.cons (o := ⟨some 26, _, _, _, _, _⟩) rfl (fun K hK => ?_) AllReadyH.nil
 go_simp
 refine (bit_any _ _ _).mono ?_
 rintro e w108 ⟨rfl, hb108⟩
 refine hK.out _ _ ?_ (fun hS' => ?_)
 ·(exact hS.below hb108)
 clear hK K hS
 have hS := hS'
 clear hS'
 try simp only [Act.put, List.setIfInBounds_toArray, List.set_cons_zero, List.set_cons_succ]
 refine wpAnyH_ready (rs := [13]) (by kernel_rfl) (by simp) ?_
 refine AllReadyH.cons (o := ⟨some 31, _, _, _, _, _⟩) rfl (fun K hK => ?_) AllReadyH.nil
 go_simp
 refine hK.out _ _ ?_ (fun hS' => ?_)
 ·(exact hS.alloc _)
 clear hK K hS
 have hS := hS'
 clear hS'
 try simp only [Act.put, List.setIfInBounds_toArray, List.set_cons_zero, List.set_cons_succ]
 refine tkR 14 7 rfl hS (fun w' hSw => by have sA := hSw.cell; clear hSw; go_simp; try with_reducible rfl) ?_
 simp only [pA, pB, pC]
 refine wpAnyH_done (by kernel_rfl) ?_ _
 have HB0 := Lib.hid (bel_trans (bel_trans (Below.drew (bel_alloc (Below.refl w.heap.size w) _)) hb100) hb108)
 have HO1 := Lib.hid (OwnL.made w108 w.heap.size 3 [bitFl 0 true, bitFl 1 true, numFl 12 12 f] #[.int .i64 0, .int .i64 1, .int .u64 (u (bitFl 0 true).v), .int .i64 1, .int .i64 1, .int .u64 (u (bitFl 1 true).v), .int .i64 12, .int .i64 12, .int .u64 (u (numFl 12 12 f).v)] HB0.out.size rfl (by decide) rfl)
 have HB1 := Lib.hid (bel_alloc HB0.out (.cells #[.int .i64 0, .int .i64 1, .int .u64 (u (bitFl 0 true).v), .int .i64 1, .int .i64 1, .int .u64 (u (bitFl 1 true).v), .int .i64 12, .int .i64 12, .int .u64 (u (numFl 12 12 f).v)] 182))
 have hne1 : w.heap.size ≠ w108.heap.size := by (have h1 := hb100.size; have h2 := hb108.size; simp at h1; omega)
 clear hBX hb100 hb108
 obtain ⟨W1, hW1⟩ : ∃ W1, W1 = w108.alloc (.cells #[.int .i64 0, .int .i64 1, .int .u64 (u (bitFl 0 true).v), .int .i64 1, .int .i64 1, .int .u64 (u (bitFl 1 true).v), .int .i64 12, .int .i64 12, .int .u64 (u (numFl 12 12 f).v)] 182) := ⟨_, rfl⟩
 rw [← hW1] at HO1 HB1 hS ⊢
 obtain ⟨G1, hG1⟩ : ∃ G1, G1 = w108.heap.size := ⟨_, rfl⟩
 rw [← hG1] at HO1 hne1 ⊢
 clear hW1 hG1 HB0 hv
 have hBX := hS
 clear hS
 have v0 := hBX.cell 0
 have v1 := hBX.cell 1
 have v2 := hBX.cell 2
 have v3 := hBX.cell 3
 have v4 := hBX.cell 4
 have v5 := hBX.cell 5
 have v6 := hBX.cell 6
 have v7 := hBX.cell 7
 have v8 := hBX.cell 8
 simp only [List.getElem?_toArray, List.getElem?_cons_zero, List.getElem?_cons_succ] at v0 v1 v2 v3 v4 v5 v6 v7 v8
 go_wp2_with fail
 clear v0 v1 v2 v3 v4 v5 v6 v7 v8
 refine (HJ.out G1 3 W1 (HO1.out.flds HS.out)).mono ?_
 rintro e w9 ⟨rfl, hb9⟩
 go_wp2
 go_ret
 exact ⟨rfl, HB1.out.trans (hb9.mono HB1.out.size)⟩
set_option maxRecDepth 100000 in
set_option maxHeartbeats 3200000 in
theorem rword_one (lv f : Int) (r wr x a n : Bool) (s o : Int) (w : World) (q : BitVec 64 × BitVec 64 × Int) (HJ : Hid (Joins ([bitFl 0 true, bitFl 1 (lv == 3), numFl 12 12 f] ++ baseL (Dsc.mk 2 f r wr x a n s o) ++ oneL (Dsc.mk 2 f r wr x a n s o)) (3 + 2 + 2) q))
  (HS : Hid (SmallL ([bitFl 0 true, bitFl 1 (lv == 3), numFl 12 12 f] ++ baseL (Dsc.mk 2 f r wr x a n s o) ++ oneL (Dsc.mk 2 f r wr x a n s o)))) :
  Calls Tryz.prog 96 #[.int .i64 1, .int .i64 lv, .agg #[.int .i64 2, .int .i64 f, .bool r, .bool wr, .bool x, .bool a, .bool n, .int .i64 s, .int .i64 o]] w fun e w' => e = .returned (.int .u64 (u q.2.1)) ∧ Below w.heap.size w w' := by
 have hBX := BoxAt.new w #[.int .i64 2, .int .i64 f, .bool r, .bool wr, .bool x, .bool a, .bool n, .int .i64 s, .int .i64 o] 101
 have hv : IntKind.u64.wrap f = u (numFl 12 12 f).v := u_conv f
 go_enter Tryz.func96, Tryz.ntmps96
 go_wp2_with fail
 refine wp_region_held_drew (S := fun w' => BoxAt w' w.heap.size #[.int .i64 2, .int .i64 f, .bool r, .bool wr, .bool x, .bool a, .bool n, .int .i64 s, .int .i64 o] 101) (by kernel_rfl) (hBX.drew) (fun hS => ?_)
 refine tkR 1 19 rfl hS (fun w' hSw => by have sA := hSw.cell; clear hSw; go_simp; try with_reducible rfl) ?_
 simp only [pA, pB, pC]
 refine tkR 2 20 rfl hS (fun w' hSw => by have sA := hSw.cell; clear hSw; go_simp; try with_reducible rfl) ?_
 simp only [pA, pB, pC]
 refine tkR 3 21 rfl hS (fun w' hSw => by have sA := hSw.cell; clear hSw; go_simp; try with_reducible rfl) ?_
 simp only [pA, pB, pC]
 refine tkR 9 27 rfl hS (fun w' hSw => by have sA := hSw.cell; clear hSw; go_simp; try with_reducible rfl) ?_
 simp only [pA, pB, pC]
 refine tkR 10 28 rfl hS (fun w' hSw => by have sA := hSw.cell; clear hSw; go_simp; try with_reducible rfl) ?_
 simp only [pA, pB, pC]
 refine tkR 11 29 rfl hS (fun w' hSw => by have sA := hSw.cell; clear hSw; go_simp; try with_reducible rfl) ?_
 simp only [pA, pB, pC]
 refine tkR 12 30 rfl hS (fun w' hSw => by have sA := hSw.cell; clear hSw; go_simp; try with_reducible rfl) ?_
 simp only [pA, pB, pC]
 refine wpAnyH_ready (rs := [0]) (by kernel_rfl) (by simp) ?_
 refine AllReadyH.cons (o := ⟨some 18, _, _, _, _, _⟩) rfl (fun K hK => ?_) AllReadyH.nil
 go_simp
 refine (bit_any _ _ _).mono ?_
 rintro e w100 ⟨rfl, hb100⟩
 refine hK.out _ _ ?_ (fun hS' => ?_)
 ·(exact hS.below hb100)
 clear hK K hS
 have hS := hS'
 clear hS'
 try simp only [Act.put, List.setIfInBounds_toArray, List.set_cons_zero, List.set_cons_succ]
 refine tkR 4 22 rfl hS (fun w' hSw => by have sA := hSw.cell; clear hSw; go_simp; try with_reducible rfl) ?_
 simp only [pA, pB, pC]
 refine tkR 5 23 rfl hS (fun w' hSw => by have sA := hSw.cell; clear hSw; go_simp; try with_reducible rfl) ?_
 simp only [pA, pB, pC]
 refine tkR 6 24 rfl hS (fun w' hSw => by have sA := hSw.cell; clear hSw; go_simp; try with_reducible rfl) ?_
 simp only [pA, pB, pC]
 refine tkR 7 25 rfl hS (fun w' hSw => by have sA := hSw.cell; clear hSw; go_simp; try with_reducible rfl) ?_
 simp only [pA, pB, pC]
 refine wpAnyH_ready (rs := [8]) (by kernel_rfl) (by simp) ?_
 refine AllReadyH.cons (o := ⟨some 26, _, _, _, _, _⟩) rfl (fun K hK => ?_) AllReadyH.nil
 go_simp
 refine (bit_any _ _ _).mono ?_
 rintro e w108 ⟨rfl, hb108⟩
 refine hK.out _ _ ?_ (fun hS' => ?_)
 ·(exact hS.below hb108)
 clear hK K hS
 have hS := hS'
 clear hS'
 try simp only [Act.put, List.setIfInBounds_toArray, List.set_cons_zero, List.set_cons_succ]
 refine wpAnyH_ready (rs := [13]) (by kernel_rfl) (by simp) ?_
 refine AllReadyH.cons (o := ⟨some 31, _, _, _, _, _⟩) rfl (fun K hK => ?_) AllReadyH.nil
 go_simp
 refine hK.out _ _ ?_ (fun hS' => ?_)
 ·(exact hS.alloc _)
 clear hK K hS
 have hS := hS'
 clear hS'
 try simp only [Act.put, List.setIfInBounds_toArray, List.set_cons_zero, List.set_cons_succ]
 refine tkR 14 7 rfl hS (fun w' hSw => by have sA := hSw.cell; clear hSw; go_simp; try with_reducible rfl) ?_
 simp only [pA, pB, pC]
 refine wpAnyH_done (by kernel_rfl) ?_ _
 have HB0 := Lib.hid (bel_trans (bel_trans (Below.drew (bel_alloc (Below.refl w.heap.size w) _)) hb100) hb108)
 have HO1 := Lib.hid (OwnL.made w108 w.heap.size 3 [bitFl 0 true, bitFl 1 (lv == 3), numFl 12 12 f] #[.int .i64 0, .int .i64 1, .int .u64 (u (bitFl 0 true).v), .int .i64 1, .int .i64 1, .int .u64 (u (bitFl 1 (lv == 3)).v), .int .i64 12, .int .i64 12, .int .u64 (u (numFl 12 12 f).v)] HB0.out.size rfl (by decide) rfl)
 have HB1 := Lib.hid (bel_alloc HB0.out (.cells #[.int .i64 0, .int .i64 1, .int .u64 (u (bitFl 0 true).v), .int .i64 1, .int .i64 1, .int .u64 (u (bitFl 1 (lv == 3)).v), .int .i64 12, .int .i64 12, .int .u64 (u (numFl 12 12 f).v)] 182))
 have hne1 : w.heap.size ≠ w108.heap.size := by (have h1 := hb100.size; have h2 := hb108.size; simp at h1; omega)
 clear hBX hb100 hb108
 obtain ⟨W1, hW1⟩ : ∃ W1, W1 = w108.alloc (.cells #[.int .i64 0, .int .i64 1, .int .u64 (u (bitFl 0 true).v), .int .i64 1, .int .i64 1, .int .u64 (u (bitFl 1 (lv == 3)).v), .int .i64 12, .int .i64 12, .int .u64 (u (numFl 12 12 f).v)] 182) := ⟨_, rfl⟩
 rw [← hW1] at HO1 HB1 hS ⊢
 obtain ⟨G1, hG1⟩ : ∃ G1, G1 = w108.heap.size := ⟨_, rfl⟩
 rw [← hG1] at HO1 hne1 ⊢
 clear hW1 hG1 HB0 hv
 have hBX := hS
 clear hS
 have v0 := hBX.cell 0
 have v1 := hBX.cell 1
 have v2 := hBX.cell 2
 have v3 := hBX.cell 3
 have v4 := hBX.cell 4
 have v5 := hBX.cell 5
 have v6 := hBX.cell 6
 have v7 := hBX.cell 7
 have v8 := hBX.cell 8
 simp only [List.getElem?_toArray, List.getElem?_cons_zero, List.getElem?_cons_succ] at v0 v1 v2 v3 v4 v5 v6 v7 v8
 go_wp2_with fail
 clear v0 v1 v2 v3 v4 v5 v6 v7 v8
 refine wp_region_held_drew (S := fun w' => BoxAt w' w.heap.size #[.int .i64 2, .int .i64 f, .bool r, .bool wr, .bool x, .bool a, .bool n, .int .i64 s, .int .i64 o] 101) (by kernel_rfl) (hBX.drew) (fun hS => ?_)
 refine tkR 0 35 rfl hS (fun w' hSw => by have sA := hSw.cell; clear hSw; go_simp; try with_reducible rfl) ?_
 simp only [pA, pB, pC]
 refine tkR 1 36 rfl hS (fun w' hSw => by have sA := hSw.cell; clear hSw; go_simp; try with_reducible rfl) ?_
 simp only [pA, pB, pC]
 refine tkR 2 37 rfl hS (fun w' hSw => by have sA := hSw.cell; clear hSw; go_simp; try with_reducible rfl) ?_
 simp only [pA, pB, pC]
 refine tkR 3 38 rfl hS (fun w' hSw => by have sA := hSw.cell; clear hSw; go_simp; try with_reducible rfl) ?_
 simp only [pA, pB, pC]
 refine tkR 5 40 rfl hS (fun w' hSw => by have sA := hSw.cell; clear hSw; go_simp; try with_reducible rfl) ?_
 simp only [pA, pB, pC]
 refine tkR 6 41 rfl hS (fun w' hSw => by have sA := hSw.cell; clear hSw; go_simp; try with_reducible rfl) ?_
 simp only [pA, pB, pC]
 refine tkR 7 42 rfl hS (fun w' hSw => by have sA := hSw.cell; clear hSw; go_simp; try with_reducible rfl) ?_
 simp only [pA, pB, pC]
 refine tkR 8 43 rfl hS (fun w' hSw => by have sA := hSw.cell; clear hSw; go_simp; try with_reducible rfl) ?_
 simp only [pA, pB, pC]
 refine wpAnyH_ready (rs := [4]) (by kernel_rfl) (by simp) ?_
 refine AllReadyH.cons (o := ⟨some 39, _, _, _, _, _⟩) rfl (fun K hK => ?_) AllReadyH.nil
 go_simp
 refine (bit_any _ _ _).mono ?_
 rintro e w104 ⟨rfl, hb104⟩
 refine hK.out _ _ ?_ (fun hS' => ?_)
 ·(exact hS.below hb104)
 clear hK K hS
 have hS := hS'
 clear hS'
 try simp only [Act.put, List.setIfInBounds_toArray, List.set_cons_zero, List.set_cons_succ]
 refine wpAnyH_ready (rs := [9]) (by kernel_rfl) (by simp) ?_
 refine AllReadyH.cons (o := ⟨some 44, _, _, _, _, _⟩) rfl (fun K hK => ?_) AllReadyH.nil
 go_simp
 refine (bit_any _ _ _).mono ?_
 rintro e w109 ⟨rfl, hb109⟩
 refine hK.out _ _ ?_ (fun hS' => ?_)
 ·(exact hS.below hb109)
 clear hK K hS
 have hS := hS'
 clear hS'
 try simp only [Act.put, List.setIfInBounds_toArray, List.set_cons_zero, List.set_cons_succ]
 refine wpAnyH_ready (rs := [10]) (by kernel_rfl) (by simp) ?_
 refine AllReadyH.cons (o := ⟨some 45, _, _, _, _, _⟩) rfl (fun K hK => ?_) AllReadyH.nil
 go_simp
 refine hK.out _ _ ?_ (fun hS' => ?_)
 ·(exact hS.alloc _)
 clear hK K hS
 have hS := hS'
 clear hS'
 try simp only [Act.put, List.setIfInBounds_toArray, List.set_cons_zero, List.set_cons_succ]
 refine wpAnyH_ready (rs := [11]) (by kernel_rfl) (by simp) ?_
 refine AllReadyH.cons (o := ⟨some 46, _, _, _, _, _⟩) rfl (fun K hK => ?_) AllReadyH.nil
 have HC2 := Lib.hid (bel_trans (bel_trans (Below.drew (Below.refl W1.heap.size W1)) hb104) hb109)
 refine step_appL (by rfl) _ _ (by rfl) w.heap.size G1 3 3 w109.heap.size 2 2 ([bitFl 0 true, bitFl 1 (lv == 3), numFl 12 12 f]) (baseL (Dsc.mk 2 f r wr x a n s o)) (by rfl) (by rfl) rfl rfl ((HO1.out.below HC2.out).below (bel_alloc (Below.refl _ _) _)) (OwnL.made w109 w.heap.size 2 (baseL (Dsc.mk 2 f r wr x a n s o)) #[.int .i64 10, .int .i64 1, .int .u64 (u (bitFl 10 a).v), .int .i64 54, .int .i64 1, .int .u64 (u (bitFl 54 (!x)).v)] (Nat.le_trans HB1.out.size HC2.out.size) rfl (by decide) rfl) (by decide) (by decide) (Nat.le_trans (Nat.le_trans HB1.out.size HC2.out.size) (bel_alloc (Below.refl _ _) _).size) ?_
 intro G2 c2 W2 hown2 hbb2 hfar
 refine hK.out _ _ ?_ (fun hS' => ?_)
 ·(exact ⟨(hfar _ hS.lt (by omega)).trans hS.h⟩)
 clear hK K hS
 have hS := hS'
 clear hS'
 try simp only [Act.put, List.setIfInBounds_toArray, List.set_cons_zero, List.set_cons_succ]
 refine tkR 12 7 rfl hS (fun w' hSw => by have sA := hSw.cell; clear hSw; go_simp; try with_reducible rfl) ?_
 simp only [pA, pB, pC]
 refine wpAnyH_done (by kernel_rfl) ?_ _
 have HO2 := Lib.hid hown2
 have HB2 := Lib.hid (((HB1.out.trans (HC2.out.mono HB1.out.size)).alloc (Nat.le_trans HB1.out.size HC2.out.size) _).trans hbb2)
 have hBX' := hS
 clear hS hBX hfar hown2 hbb2 HC2 HO1 HB1 hb104 hb109
 have hBX := hBX'
 clear hBX'
 have hne2 : w.heap.size ≠ G2 := ne_box HO2.out hBX
 have v0 := hBX.cell 0
 have v1 := hBX.cell 1
 have v2 := hBX.cell 2
 have v3 := hBX.cell 3
 have v4 := hBX.cell 4
 have v5 := hBX.cell 5
 have v6 := hBX.cell 6
 have v7 := hBX.cell 7
 have v8 := hBX.cell 8
 simp only [List.getElem?_toArray, List.getElem?_cons_zero, List.getElem?_cons_succ] at v0 v1 v2 v3 v4 v5 v6 v7 v8
 go_wp2_with fail
 clear v0 v1 v2 v3 v4 v5 v6 v7 v8
 refine wp_region_held_drew (S := fun w' => BoxAt w' w.heap.size #[.int .i64 2, .int .i64 f, .bool r, .bool wr, .bool x, .bool a, .bool n, .int .i64 s, .int .i64 o] 101) (by kernel_rfl) (hBX.drew) (fun hS => ?_)
 refine tkR 0 49 rfl hS (fun w' hSw => by have sA := hSw.cell; clear hSw; go_simp; try with_reducible rfl) ?_
 simp only [pA, pB, pC]
 refine tkR 1 50 rfl hS (fun w' hSw => by have sA := hSw.cell; clear hSw; go_simp; try with_reducible rfl) ?_
 simp only [pA, pB, pC]
 refine tkR 2 51 rfl hS (fun w' hSw => by have sA := hSw.cell; clear hSw; go_simp; try with_reducible rfl) ?_
 simp only [pA, pB, pC]
 refine tkR 3 52 rfl hS (fun w' hSw => by have sA := hSw.cell; clear hSw; go_simp; try with_reducible rfl) ?_
 simp only [pA, pB, pC]
 refine tkR 4 53 rfl hS (fun w' hSw => by have sA := hSw.cell; clear hSw; go_simp; try with_reducible rfl) ?_
 simp only [pA, pB, pC]
 refine tkR 6 55 rfl hS (fun w' hSw => by have sA := hSw.cell; clear hSw; go_simp; try with_reducible rfl) ?_
 simp only [pA, pB, pC]
 refine tkR 7 56 rfl hS (fun w' hSw => by have sA := hSw.cell; clear hSw; go_simp; try with_reducible rfl) ?_
 simp only [pA, pB, pC]
 refine tkR 8 57 rfl hS (fun w' hSw => by have sA := hSw.cell; clear hSw; go_simp; try with_reducible rfl) ?_
 simp only [pA, pB, pC]
 refine wpAnyH_ready (rs := [5]) (by kernel_rfl) (by simp) ?_
 refine AllReadyH.cons (o := ⟨some 54, _, _, _, _, _⟩) rfl (fun K hK => ?_) AllReadyH.nil
 go_simp
 refine (bit_any _ _ _).mono ?_
 rintro e w105 ⟨rfl, hb105⟩
 refine hK.out _ _ ?_ (fun hS' => ?_)
 ·(exact hS.below hb105)
 clear hK K hS
 have hS := hS'
 clear hS'
 try simp only [Act.put, List.setIfInBounds_toArray, List.set_cons_zero, List.set_cons_succ]
 refine wpAnyH_ready (rs := [9]) (by kernel_rfl) (by simp) ?_
 refine AllReadyH.cons (o := ⟨some 58, _, _, _, _, _⟩) rfl (fun K hK => ?_) AllReadyH.nil
 go_simp
 refine (bit_any _ _ _).mono ?_
 rintro e w109 ⟨rfl, hb109⟩
 refine hK.out _ _ ?_ (fun hS' => ?_)
 ·(exact hS.below hb109)
 clear hK K hS
 have hS := hS'
 clear hS'
 try simp only [Act.put, List.setIfInBounds_toArray, List.set_cons_zero, List.set_cons_succ]
 refine wpAnyH_ready (rs := [10]) (by kernel_rfl) (by simp) ?_
 refine AllReadyH.cons (o := ⟨some 59, _, _, _, _, _⟩) rfl (fun K hK => ?_) AllReadyH.nil
 go_simp
 refine hK.out _ _ ?_ (fun hS' => ?_)
 ·(exact hS.alloc _)
 clear hK K hS
 have hS := hS'
 clear hS'
 try simp only [Act.put, List.setIfInBounds_toArray, List.set_cons_zero, List.set_cons_succ]
 refine wpAnyH_ready (rs := [11]) (by kernel_rfl) (by simp) ?_
 refine AllReadyH.cons (o := ⟨some 60, _, _, _, _, _⟩) rfl (fun K hK => ?_) AllReadyH.nil
 have HC3 := Lib.hid (bel_trans (bel_trans (Below.drew (Below.refl W2.heap.size W2)) hb105) hb109)
 refine step_appL (by rfl) _ _ (by rfl) w.heap.size G2 (3 + 2) c2 w109.heap.size 2 2 ([bitFl 0 true, bitFl 1 (lv == 3), numFl 12 12 f] ++ baseL (Dsc.mk 2 f r wr x a n s o)) (oneL (Dsc.mk 2 f r wr x a n s o)) (by rfl) (by rfl) rfl rfl ((HO2.out.below HC3.out).below (bel_alloc (Below.refl _ _) _)) (OwnL.made w109 w.heap.size 2 (oneL (Dsc.mk 2 f r wr x a n s o)) #[.int .i64 7, .int .i64 1, .int .u64 (u (bitFl 7 (!wr)).v), .int .i64 11, .int .i64 1, .int .u64 (u (bitFl 11 n).v)] (Nat.le_trans HB2.out.size HC3.out.size) rfl (by decide) rfl) (by decide) (by decide) (Nat.le_trans (Nat.le_trans HB2.out.size HC3.out.size) (bel_alloc (Below.refl _ _) _).size) ?_
 intro G3 c3 W3 hown3 hbb3 hfar
 refine hK.out _ _ ?_ (fun hS' => ?_)
 ·(exact ⟨(hfar _ hS.lt (by omega)).trans hS.h⟩)
 clear hK K hS
 have hS := hS'
 clear hS'
 try simp only [Act.put, List.setIfInBounds_toArray, List.set_cons_zero, List.set_cons_succ]
 refine tkR 12 7 rfl hS (fun w' hSw => by have sA := hSw.cell; clear hSw; go_simp; try with_reducible rfl) ?_
 simp only [pA, pB, pC]
 refine wpAnyH_done (by kernel_rfl) ?_ _
 have HO3 := Lib.hid hown3
 have HB3 := Lib.hid (((HB2.out.trans (HC3.out.mono HB2.out.size)).alloc (Nat.le_trans HB2.out.size HC3.out.size) _).trans hbb3)
 have hBX' := hS
 clear hS hBX hfar hown3 hbb3 HC3 HO2 HB2 hb105 hb109
 have hBX := hBX'
 clear hBX'
 go_wp2_with fail
 refine (HJ.out G3 c3 W3 (HO3.out.flds HS.out)).mono ?_
 rintro e w9 ⟨rfl, hb9⟩
 go_wp2
 go_ret
 exact ⟨rfl, HB3.out.trans (hb9.mono HB3.out.size)⟩
set_option maxRecDepth 100000 in
set_option maxHeartbeats 3200000 in
theorem rword_two (st lv f : Int) (r wr x a n : Bool) (s o : Int) (w : World) (q : BitVec 64 × BitVec 64 × Int) (t1 : (st == 1) = false) (HJ : Hid (Joins ([bitFl 0 true, bitFl 1 (lv == 3), numFl 12 12 f] ++ baseL (Dsc.mk 2 f r wr x a n s o) ++ twoL (Dsc.mk 2 f r wr x a n s o)) (3 + 2 + 3) q))
  (HS : Hid (SmallL ([bitFl 0 true, bitFl 1 (lv == 3), numFl 12 12 f] ++ baseL (Dsc.mk 2 f r wr x a n s o) ++ twoL (Dsc.mk 2 f r wr x a n s o)))) :
  Calls Tryz.prog 96 #[.int .i64 st, .int .i64 lv, .agg #[.int .i64 2, .int .i64 f, .bool r, .bool wr, .bool x, .bool a, .bool n, .int .i64 s, .int .i64 o]] w fun e w' => e = .returned (.int .u64 (u q.2.1)) ∧ Below w.heap.size w w' := by
 have hBX := BoxAt.new w #[.int .i64 2, .int .i64 f, .bool r, .bool wr, .bool x, .bool a, .bool n, .int .i64 s, .int .i64 o] 101
 have hv : IntKind.u64.wrap f = u (numFl 12 12 f).v := u_conv f
 have hvs : IntKind.u64.wrap s = u (numFl 55 4 s).v := u_conv s
 go_enter Tryz.func96, Tryz.ntmps96
 go_wp2_with fail
 refine wp_region_held_drew (S := fun w' => BoxAt w' w.heap.size #[.int .i64 2, .int .i64 f, .bool r, .bool wr, .bool x, .bool a, .bool n, .int .i64 s, .int .i64 o] 101) (by kernel_rfl) (hBX.drew) (fun hS => ?_)
 refine tkR 1 19 rfl hS (fun w' hSw => by have sA := hSw.cell; clear hSw; go_simp; try with_reducible rfl) ?_
 simp only [pA, pB, pC]
 refine tkR 2 20 rfl hS (fun w' hSw => by have sA := hSw.cell; clear hSw; go_simp; try with_reducible rfl) ?_
 simp only [pA, pB, pC]
 refine tkR 3 21 rfl hS (fun w' hSw => by have sA := hSw.cell; clear hSw; go_simp; try with_reducible rfl) ?_
 simp only [pA, pB, pC]
 refine tkR 9 27 rfl hS (fun w' hSw => by have sA := hSw.cell; clear hSw; go_simp; try with_reducible rfl) ?_
 simp only [pA, pB, pC]
 refine tkR 10 28 rfl hS (fun w' hSw => by have sA := hSw.cell; clear hSw; go_simp; try with_reducible rfl) ?_
 simp only [pA, pB, pC]
 refine tkR 11 29 rfl hS (fun w' hSw => by have sA := hSw.cell; clear hSw; go_simp; try with_reducible rfl) ?_
 simp only [pA, pB, pC]
 refine tkR 12 30 rfl hS (fun w' hSw => by have sA := hSw.cell; clear hSw; go_simp; try with_reducible rfl) ?_
 simp only [pA, pB, pC]
 refine wpAnyH_ready (rs := [0]) (by kernel_rfl) (by simp) ?_
 refine AllReadyH.cons (o := ⟨some 18, _, _, _, _, _⟩) rfl (fun K hK => ?_) AllReadyH.nil
 go_simp
 refine (bit_any _ _ _).mono ?_
 rintro e w100 ⟨rfl, hb100⟩
 refine hK.out _ _ ?_ (fun hS' => ?_)
 ·(exact hS.below hb100)
 clear hK K hS
 have hS := hS'
 clear hS'
 try simp only [Act.put, List.setIfInBounds_toArray, List.set_cons_zero, List.set_cons_succ]
 refine tkR 4 22 rfl hS (fun w' hSw => by have sA := hSw.cell; clear hSw; go_simp; try with_reducible rfl) ?_
 simp only [pA, pB, pC]
 refine tkR 5 23 rfl hS (fun w' hSw => by have sA := hSw.cell; clear hSw; go_simp; try with_reducible rfl) ?_
 simp only [pA, pB, pC]
 refine tkR 6 24 rfl hS (fun w' hSw => by have sA := hSw.cell; clear hSw; go_simp; try with_reducible rfl) ?_
 simp only [pA, pB, pC]
 refine tkR 7 25 rfl hS (fun w' hSw => by have sA := hSw.cell; clear hSw; go_simp; try with_reducible rfl) ?_
 simp only [pA, pB, pC]
 refine wpAnyH_ready (rs := [8]) (by kernel_rfl) (by simp) ?_
 refine AllReadyH.cons (o := ⟨some 26, _, _, _, _, _⟩) rfl (fun K hK => ?_) AllReadyH.nil
 go_simp
 refine (bit_any _ _ _).mono ?_
 rintro e w108 ⟨rfl, hb108⟩
 refine hK.out _ _ ?_ (fun hS' => ?_)
 ·(exact hS.below hb108)
 clear hK K hS
 have hS := hS'
 clear hS'
 try simp only [Act.put, List.setIfInBounds_toArray, List.set_cons_zero, List.set_cons_succ]
 refine wpAnyH_ready (rs := [13]) (by kernel_rfl) (by simp) ?_
 refine AllReadyH.cons (o := ⟨some 31, _, _, _, _, _⟩) rfl (fun K hK => ?_) AllReadyH.nil
 go_simp
 refine hK.out _ _ ?_ (fun hS' => ?_)
 ·(exact hS.alloc _)
 clear hK K hS
 have hS := hS'
 clear hS'
 try simp only [Act.put, List.setIfInBounds_toArray, List.set_cons_zero, List.set_cons_succ]
 refine tkR 14 7 rfl hS (fun w' hSw => by have sA := hSw.cell; clear hSw; go_simp; try with_reducible rfl) ?_
 simp only [pA, pB, pC]
 refine wpAnyH_done (by kernel_rfl) ?_ _
 have HB0 := Lib.hid (bel_trans (bel_trans (Below.drew (bel_alloc (Below.refl w.heap.size w) _)) hb100) hb108)
 have HO1 := Lib.hid (OwnL.made w108 w.heap.size 3 [bitFl 0 true, bitFl 1 (lv == 3), numFl 12 12 f] #[.int .i64 0, .int .i64 1, .int .u64 (u (bitFl 0 true).v), .int .i64 1, .int .i64 1, .int .u64 (u (bitFl 1 (lv == 3)).v), .int .i64 12, .int .i64 12, .int .u64 (u (numFl 12 12 f).v)] HB0.out.size rfl (by decide) rfl)
 have HB1 := Lib.hid (bel_alloc HB0.out (.cells #[.int .i64 0, .int .i64 1, .int .u64 (u (bitFl 0 true).v), .int .i64 1, .int .i64 1, .int .u64 (u (bitFl 1 (lv == 3)).v), .int .i64 12, .int .i64 12, .int .u64 (u (numFl 12 12 f).v)] 182))
 have hne1 : w.heap.size ≠ w108.heap.size := by (have h1 := hb100.size; have h2 := hb108.size; simp at h1; omega)
 clear hBX hb100 hb108
 obtain ⟨W1, hW1⟩ : ∃ W1, W1 = w108.alloc (.cells #[.int .i64 0, .int .i64 1, .int .u64 (u (bitFl 0 true).v), .int .i64 1, .int .i64 1, .int .u64 (u (bitFl 1 (lv == 3)).v), .int .i64 12, .int .i64 12, .int .u64 (u (numFl 12 12 f).v)] 182) := ⟨_, rfl⟩
 rw [← hW1] at HO1 HB1 hS ⊢
 obtain ⟨G1, hG1⟩ : ∃ G1, G1 = w108.heap.size := ⟨_, rfl⟩
 rw [← hG1] at HO1 hne1 ⊢
 clear hW1 hG1 HB0 hv
 have hBX := hS
 clear hS
 have v0 := hBX.cell 0
 have v1 := hBX.cell 1
 have v2 := hBX.cell 2
 have v3 := hBX.cell 3
 have v4 := hBX.cell 4
 have v5 := hBX.cell 5
 have v6 := hBX.cell 6
 have v7 := hBX.cell 7
 have v8 := hBX.cell 8
 simp only [List.getElem?_toArray, List.getElem?_cons_zero, List.getElem?_cons_succ] at v0 v1 v2 v3 v4 v5 v6 v7 v8
 go_wp2_with fail
 clear v0 v1 v2 v3 v4 v5 v6 v7 v8
 refine wp_region_held_drew (S := fun w' => BoxAt w' w.heap.size #[.int .i64 2, .int .i64 f, .bool r, .bool wr, .bool x, .bool a, .bool n, .int .i64 s, .int .i64 o] 101) (by kernel_rfl) (hBX.drew) (fun hS => ?_)
 refine tkR 0 35 rfl hS (fun w' hSw => by have sA := hSw.cell; clear hSw; go_simp; try with_reducible rfl) ?_
 simp only [pA, pB, pC]
 refine tkR 1 36 rfl hS (fun w' hSw => by have sA := hSw.cell; clear hSw; go_simp; try with_reducible rfl) ?_
 simp only [pA, pB, pC]
 refine tkR 2 37 rfl hS (fun w' hSw => by have sA := hSw.cell; clear hSw; go_simp; try with_reducible rfl) ?_
 simp only [pA, pB, pC]
 refine tkR 3 38 rfl hS (fun w' hSw => by have sA := hSw.cell; clear hSw; go_simp; try with_reducible rfl) ?_
 simp only [pA, pB, pC]
 refine tkR 5 40 rfl hS (fun w' hSw => by have sA := hSw.cell; clear hSw; go_simp; try with_reducible rfl) ?_
 simp only [pA, pB, pC]
 refine tkR 6 41 rfl hS (fun w' hSw => by have sA := hSw.cell; clear hSw; go_simp; try with_reducible rfl) ?_
 simp only [pA, pB, pC]
 refine tkR 7 42 rfl hS (fun w' hSw => by have sA := hSw.cell; clear hSw; go_simp; try with_reducible rfl) ?_
 simp only [pA, pB, pC]
 refine tkR 8 43 rfl hS (fun w' hSw => by have sA := hSw.cell; clear hSw; go_simp; try with_reducible rfl) ?_
 simp only [pA, pB, pC]
 refine wpAnyH_ready (rs := [4]) (by kernel_rfl) (by simp) ?_
 refine AllReadyH.cons (o := ⟨some 39, _, _, _, _, _⟩) rfl (fun K hK => ?_) AllReadyH.nil
 go_simp
 refine (bit_any _ _ _).mono ?_
 rintro e w104 ⟨rfl, hb104⟩
 refine hK.out _ _ ?_ (fun hS' => ?_)
 ·(exact hS.below hb104)
 clear hK K hS
 have hS := hS'
 clear hS'
 try simp only [Act.put, List.setIfInBounds_toArray, List.set_cons_zero, List.set_cons_succ]
 refine wpAnyH_ready (rs := [9]) (by kernel_rfl) (by simp) ?_
 refine AllReadyH.cons (o := ⟨some 44, _, _, _, _, _⟩) rfl (fun K hK => ?_) AllReadyH.nil
 go_simp
 refine (bit_any _ _ _).mono ?_
 rintro e w109 ⟨rfl, hb109⟩
 refine hK.out _ _ ?_ (fun hS' => ?_)
 ·(exact hS.below hb109)
 clear hK K hS
 have hS := hS'
 clear hS'
 try simp only [Act.put, List.setIfInBounds_toArray, List.set_cons_zero, List.set_cons_succ]
 refine wpAnyH_ready (rs := [10]) (by kernel_rfl) (by simp) ?_
 refine AllReadyH.cons (o := ⟨some 45, _, _, _, _, _⟩) rfl (fun K hK => ?_) AllReadyH.nil
 go_simp
 refine hK.out _ _ ?_ (fun hS' => ?_)
 ·(exact hS.alloc _)
 clear hK K hS
 have hS := hS'
 clear hS'
 try simp only [Act.put, List.setIfInBounds_toArray, List.set_cons_zero, List.set_cons_succ]
 refine wpAnyH_ready (rs := [11]) (by kernel_rfl) (by simp) ?_
 refine AllReadyH.cons (o := ⟨some 46, _, _, _, _, _⟩) rfl (fun K hK => ?_) AllReadyH.nil
 have HC2 := Lib.hid (bel_trans (bel_trans (Below.drew (Below.refl W1.heap.size W1)) hb104) hb109)
 refine step_appL (by rfl) _ _ (by rfl) w.heap.size G1 3 3 w109.heap.size 2 2 ([bitFl 0 true, bitFl 1 (lv == 3), numFl 12 12 f]) (baseL (Dsc.mk 2 f r wr x a n s o)) (by rfl) (by rfl) rfl rfl ((HO1.out.below HC2.out).below (bel_alloc (Below.refl _ _) _)) (OwnL.made w109 w.heap.size 2 (baseL (Dsc.mk 2 f r wr x a n s o)) #[.int .i64 10, .int .i64 1, .int .u64 (u (bitFl 10 a).v), .int .i64 54, .int .i64 1, .int .u64 (u (bitFl 54 (!x)).v)] (Nat.le_trans HB1.out.size HC2.out.size) rfl (by decide) rfl) (by decide) (by decide) (Nat.le_trans (Nat.le_trans HB1.out.size HC2.out.size) (bel_alloc (Below.refl _ _) _).size) ?_
 intro G2 c2 W2 hown2 hbb2 hfar
 refine hK.out _ _ ?_ (fun hS' => ?_)
 ·(exact ⟨(hfar _ hS.lt (by omega)).trans hS.h⟩)
 clear hK K hS
 have hS := hS'
 clear hS'
 try simp only [Act.put, List.setIfInBounds_toArray, List.set_cons_zero, List.set_cons_succ]
 refine tkR 12 7 rfl hS (fun w' hSw => by have sA := hSw.cell; clear hSw; go_simp; try with_reducible rfl) ?_
 simp only [pA, pB, pC]
 refine wpAnyH_done (by kernel_rfl) ?_ _
 have HO2 := Lib.hid hown2
 have HB2 := Lib.hid (((HB1.out.trans (HC2.out.mono HB1.out.size)).alloc (Nat.le_trans HB1.out.size HC2.out.size) _).trans hbb2)
 have hBX' := hS
 clear hS hBX hfar hown2 hbb2 HC2 HO1 HB1 hb104 hb109
 have hBX := hBX'
 clear hBX'
 have hne2 : w.heap.size ≠ G2 := ne_box HO2.out hBX
 have v0 := hBX.cell 0
 have v1 := hBX.cell 1
 have v2 := hBX.cell 2
 have v3 := hBX.cell 3
 have v4 := hBX.cell 4
 have v5 := hBX.cell 5
 have v6 := hBX.cell 6
 have v7 := hBX.cell 7
 have v8 := hBX.cell 8
 simp only [List.getElem?_toArray, List.getElem?_cons_zero, List.getElem?_cons_succ] at v0 v1 v2 v3 v4 v5 v6 v7 v8
 go_wp2_with fail
 clear v0 v1 v2 v3 v4 v5 v6 v7 v8
 refine wp_region_held_drew (S := fun w' => BoxAt w' w.heap.size #[.int .i64 2, .int .i64 f, .bool r, .bool wr, .bool x, .bool a, .bool n, .int .i64 s, .int .i64 o] 101) (by kernel_rfl) (hBX.drew) (fun hS => ?_)
 refine tkR 0 61 rfl hS (fun w' hSw => by have sA := hSw.cell; clear hSw; go_simp; try with_reducible rfl) ?_
 simp only [pA, pB, pC]
 refine tkR 1 62 rfl hS (fun w' hSw => by have sA := hSw.cell; clear hSw; go_simp; try with_reducible rfl) ?_
 simp only [pA, pB, pC]
 refine tkR 2 63 rfl hS (fun w' hSw => by have sA := hSw.cell; clear hSw; go_simp; try with_reducible rfl) ?_
 simp only [pA, pB, pC]
 refine tkR 3 64 rfl hS (fun w' hSw => by have sA := hSw.cell; clear hSw; go_simp; try with_reducible rfl) ?_
 simp only [pA, pB, pC]
 refine tkR 5 66 rfl hS (fun w' hSw => by have sA := hSw.cell; clear hSw; go_simp; try with_reducible rfl) ?_
 simp only [pA, pB, pC]
 refine tkR 6 67 rfl hS (fun w' hSw => by have sA := hSw.cell; clear hSw; go_simp; try with_reducible rfl) ?_
 simp only [pA, pB, pC]
 refine tkR 7 68 rfl hS (fun w' hSw => by have sA := hSw.cell; clear hSw; go_simp; try with_reducible rfl) ?_
 simp only [pA, pB, pC]
 refine tkR 9 70 rfl hS (fun w' hSw => by have sA := hSw.cell; clear hSw; go_simp; try with_reducible rfl) ?_
 simp only [pA, pB, pC]
 refine tkR 10 71 rfl hS (fun w' hSw => by have sA := hSw.cell; clear hSw; go_simp; try with_reducible rfl) ?_
 simp only [pA, pB, pC]
 refine tkR 11 72 rfl hS (fun w' hSw => by have sA := hSw.cell; clear hSw; go_simp; try with_reducible rfl) ?_
 simp only [pA, pB, pC]
 refine tkR 12 73 rfl hS (fun w' hSw => by have sA := hSw.cell; clear hSw; go_simp; try with_reducible rfl) ?_
 simp only [pA, pB, pC]
 refine tkR 13 74 rfl hS (fun w' hSw => by have sA := hSw.cell; clear hSw; go_simp; try with_reducible rfl) ?_
 simp only [pA, pB, pC]
 refine wpAnyH_ready (rs := [4]) (by kernel_rfl) (by simp) ?_
 refine AllReadyH.cons (o := ⟨some 65, _, _, _, _, _⟩) rfl (fun K hK => ?_) AllReadyH.nil
 go_simp
 refine (bit_any _ _ _).mono ?_
 rintro e w104 ⟨rfl, hb104⟩
 refine hK.out _ _ ?_ (fun hS' => ?_)
 ·(exact hS.below hb104)
 clear hK K hS
 have hS := hS'
 clear hS'
 try simp only [Act.put, List.setIfInBounds_toArray, List.set_cons_zero, List.set_cons_succ]
 refine wpAnyH_ready (rs := [8]) (by kernel_rfl) (by simp) ?_
 refine AllReadyH.cons (o := ⟨some 69, _, _, _, _, _⟩) rfl (fun K hK => ?_) AllReadyH.nil
 go_simp
 refine (bit_any _ _ _).mono ?_
 rintro e w108 ⟨rfl, hb108⟩
 refine hK.out _ _ ?_ (fun hS' => ?_)
 ·(exact hS.below hb108)
 clear hK K hS
 have hS := hS'
 clear hS'
 try simp only [Act.put, List.setIfInBounds_toArray, List.set_cons_zero, List.set_cons_succ]
 refine wpAnyH_ready (rs := [14]) (by kernel_rfl) (by simp) ?_
 refine AllReadyH.cons (o := ⟨some 75, _, _, _, _, _⟩) rfl (fun K hK => ?_) AllReadyH.nil
 go_simp
 refine hK.out _ _ ?_ (fun hS' => ?_)
 ·(exact hS.alloc _)
 clear hK K hS
 have hS := hS'
 clear hS'
 try simp only [Act.put, List.setIfInBounds_toArray, List.set_cons_zero, List.set_cons_succ]
 refine wpAnyH_ready (rs := [15]) (by kernel_rfl) (by simp) ?_
 refine AllReadyH.cons (o := ⟨some 76, _, _, _, _, _⟩) rfl (fun K hK => ?_) AllReadyH.nil
 have HC3 := Lib.hid (bel_trans (bel_trans (Below.drew (Below.refl W2.heap.size W2)) hb104) hb108)
 refine step_appL (by rfl) _ _ (by rfl) w.heap.size G2 (3 + 2) c2 w108.heap.size 3 3 ([bitFl 0 true, bitFl 1 (lv == 3), numFl 12 12 f] ++ baseL (Dsc.mk 2 f r wr x a n s o)) (twoL (Dsc.mk 2 f r wr x a n s o)) (by rfl) (by rfl) rfl rfl ((HO2.out.below HC3.out).below (bel_alloc (Below.refl _ _) _)) (OwnL.made w108 w.heap.size 3 (twoL (Dsc.mk 2 f r wr x a n s o)) #[.int .i64 6, .int .i64 1, .int .u64 (u (bitFl 6 r).v), .int .i64 7, .int .i64 1, .int .u64 (u (bitFl 7 wr).v), .int .i64 55, .int .i64 4, .int .u64 (u (numFl 55 4 s).v)] (Nat.le_trans HB2.out.size HC3.out.size) rfl (by decide) rfl) (by decide) (by decide) (Nat.le_trans (Nat.le_trans HB2.out.size HC3.out.size) (bel_alloc (Below.refl _ _) _).size) ?_
 intro G3 c3 W3 hown3 hbb3 hfar
 refine hK.out _ _ ?_ (fun hS' => ?_)
 ·(exact ⟨(hfar _ hS.lt (by omega)).trans hS.h⟩)
 clear hK K hS
 have hS := hS'
 clear hS'
 try simp only [Act.put, List.setIfInBounds_toArray, List.set_cons_zero, List.set_cons_succ]
 refine tkR 16 7 rfl hS (fun w' hSw => by have sA := hSw.cell; clear hSw; go_simp; try with_reducible rfl) ?_
 simp only [pA, pB, pC]
 refine wpAnyH_done (by kernel_rfl) ?_ _
 have HO3 := Lib.hid hown3
 have HB3 := Lib.hid (((HB2.out.trans (HC3.out.mono HB2.out.size)).alloc (Nat.le_trans HB2.out.size HC3.out.size) _).trans hbb3)
 have hBX' := hS
 clear hS hBX hfar hown3 hbb3 HC3 HO2 HB2 hb104 hb108
 have hBX := hBX'
 clear hBX'
 go_wp2_with fail
 refine (HJ.out G3 c3 W3 (HO3.out.flds HS.out)).mono ?_
 rintro e w9 ⟨rfl, hb9⟩
 go_wp2
 go_ret
 exact ⟨rfl, HB3.out.trans (hb9.mono HB3.out.size)⟩
theorem rword_any (st lv : Int) (k f : Int) (r wr x a n : Bool) (s o : Int) (w : World) (hm : mayD st lv (Dsc.mk k f r wr x a n s o) = true) :
  Calls Tryz.prog 96 #[.int .i64 st, .int .i64 lv, .agg #[.int .i64 k, .int .i64 f, .bool r, .bool wr, .bool x, .bool a, .bool n, .int .i64 s, .int .i64 o]] w fun e w' => e = .returned (.int .u64 (u (wordD st lv (Dsc.mk k f r wr x a n s o)))) ∧ Below w.heap.size w w' := by
 have hs := small_fields st lv (Dsc.mk k f r wr x a n s o)
 unfold wordD
 by_cases k0 : k = 0
 ·subst k0
  simp only [mayD, if_true, noneD, Bool.and_eq_true, eqD_iff, Dsc.mk.injEq, Bool.or_eq_true, decide_eq_true_eq, numB_iff] at hm
  have hw := word_none st lv (Dsc.mk 0 f r wr x a n s o) rfl (by show 0 ≤ o; omega) (by show o ≤ 15; omega)
  unfold wordD at hw
  rw [hw]
  exact rword_none st lv f r wr x a n s o w
 ·by_cases k1 : k = 1
  ·subst k1
   have he : fieldsL st lv (Dsc.mk 1 f r wr x a n s o) = [bitFl 0 true, bitFl 1 true, numFl 12 12 f] := by simp [fieldsL, headL]
   rw [he] at hs ⊢
   exact rword_table st lv f r wr x a n s o w _ (Lib.hid (joins_of _ hs.2)) (Lib.hid hs.1)
  ·by_cases k2 : k = 2
   ·subst k2
    by_cases h1 : st = 1
    ·subst h1
     have he : fieldsL 1 lv (Dsc.mk 2 f r wr x a n s o) = [bitFl 0 true, bitFl 1 (lv == 3), numFl 12 12 f] ++ baseL (Dsc.mk 2 f r wr x a n s o) ++ oneL (Dsc.mk 2 f r wr x a n s o) := by
      rw [beq_int]; simp [fieldsL, headL, attrL]
     rw [he] at hs ⊢
     exact rword_one lv f r wr x a n s o w _ (Lib.hid (joins_of _ hs.2)) (Lib.hid hs.1)
    ·have he : fieldsL st lv (Dsc.mk 2 f r wr x a n s o) = [bitFl 0 true, bitFl 1 (lv == 3), numFl 12 12 f] ++ baseL (Dsc.mk 2 f r wr x a n s o) ++ twoL (Dsc.mk 2 f r wr x a n s o) := by
      rw [beq_int]; simp [fieldsL, headL, attrL, h1]
     rw [he] at hs ⊢
     exact rword_two st lv f r wr x a n s o w _ (by simpa using h1) (Lib.hid (joins_of _ hs.2)) (Lib.hid hs.1)
   ·simp [mayD, k0, k1, k2] at hm
end Go.Proofs.YtmelepohdbojlaaGreat
