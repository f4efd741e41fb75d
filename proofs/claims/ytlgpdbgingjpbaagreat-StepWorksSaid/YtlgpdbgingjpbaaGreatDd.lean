/- Fields of entries (package desc),and the reference's Word: contracts. -/
import Derived.Test.YtlgpdbgingjpbaaGreatKt
import Derived.Test.YtlgpdbgingjpbaaGreatGa
set_option linter.all false
namespace Go.Proofs.YtlgpdbgingjpbaaGreat
open Go.ChangeShapes Go.WideShapes Go.ChangeAt Go.RowKit Go.Deep
theorem oneBit_any (p:Int) (b:Bool) (w:World) :
  Calls Tryz.prog 348 #[.int .i64 p,.bool b] w fun e w'=>e=.returned (.agg #[.int .i64 p,.int .i64 1,.int .u64 (u (bitFl p b).v)])∧Below w.heap.size w w':=by
 have h1:u (bitFl p true).v=1:=by show u 1#64=1;decide
 have h0:u (bitFl p false).v=0:=by show u 0#64=0;decide
 cases b
 ·rw [h0]
  clear h1 h0
  go_enter Tryz.func348,Tryz.ntmps348
  go_wp2
  go_returns
  exact ⟨rfl,by go_grown⟩
 ·rw [h1]
  clear h1 h0
  go_enter Tryz.func348,Tryz.ntmps348
  go_wp2
  go_returns
  exact ⟨rfl,by go_grown⟩
theorem someBits_any (p m v:Int) (w:World) :
  Calls Tryz.prog 347 #[.int .i64 p,.int .i64 m,.int .i64 v] w fun e w'=>e=.returned (.agg #[.int .i64 p,.int .i64 m,.int .u64 (u (numFl p m v).v)])∧Below w.heap.size w w':=by
 have hc:IntKind.u64.wrap v=u (numFl p m v).v:=u_conv v
 go_enter Tryz.func347,Tryz.ntmps347
 go_wp2
 go_returns
 exact ⟨rfl,by go_grown⟩
set_option maxRecDepth 100000 in
set_option maxHeartbeats 3200000 in
theorem attrFields_one (lv:Int) (k f:Int) (r wr x a n:Bool) (s o:Int) (w:World) :
  Calls Tryz.prog 349 #[.agg #[.int .i64 1,.int .i64 lv,.int .i64 k,.int .i64 f,.bool r,.bool wr,.bool x,.bool a,.bool n,.int .i64 s,.int .i64 o]] w (EndL w (baseL (Dsc.mk k f r wr x a n s o)++oneL (Dsc.mk k f r wr x a n s o))):=by
 have hBX:=BoxAt.new w #[.int .i64 1,.int .i64 lv,.int .i64 k,.int .i64 f,.bool r,.bool wr,.bool x,.bool a,.bool n,.int .i64 s,.int .i64 o] 378
 go_enter Tryz.func349,Tryz.ntmps349
 go_wp2_with fail
 refine wp_region_held_drew (S:=fun w'=>BoxAt w' w.heap.size #[.int .i64 1,.int .i64 lv,.int .i64 k,.int .i64 f,.bool r,.bool wr,.bool x,.bool a,.bool n,.int .i64 s,.int .i64 o] 378) (by kernel_rfl) (hBX.drew) (fun hS=>?_)
 refine tkR 0 4 rfl hS (fun w' hSw=>by have sA:=hSw.cell;clear hSw;go_simp;try with_reducible rfl) ?_
 simp only [pA,pB,pC]
 refine tkR 1 5 rfl hS (fun w' hSw=>by have sA:=hSw.cell;clear hSw;go_simp;try with_reducible rfl) ?_
 simp only [pA,pB,pC]
 refine tkR 2 6 rfl hS (fun w' hSw=>by have sA:=hSw.cell;clear hSw;go_simp;try with_reducible rfl) ?_
 simp only [pA,pB,pC]
 refine tkR 3 7 rfl hS (fun w' hSw=>by have sA:=hSw.cell;clear hSw;go_simp;try with_reducible rfl) ?_
 simp only [pA,pB,pC]
 refine tkR 5 9 rfl hS (fun w' hSw=>by have sA:=hSw.cell;clear hSw;go_simp;try with_reducible rfl) ?_
 simp only [pA,pB,pC]
 refine tkR 6 10 rfl hS (fun w' hSw=>by have sA:=hSw.cell;clear hSw;go_simp;try with_reducible rfl) ?_
 simp only [pA,pB,pC]
 refine tkR 7 11 rfl hS (fun w' hSw=>by have sA:=hSw.cell;clear hSw;go_simp;try with_reducible rfl) ?_
 simp only [pA,pB,pC]
 refine tkR 8 12 rfl hS (fun w' hSw=>by have sA:=hSw.cell;clear hSw;go_simp;try with_reducible rfl) ?_
 simp only [pA,pB,pC]
 refine tkR 9 13 rfl hS (fun w' hSw=>by have sA:=hSw.cell;clear hSw;go_simp;try with_reducible rfl) ?_
 simp only [pA,pB,pC]
 refine wpAnyH_ready (rs:=[4]) (by kernel_rfl) (by simp) ?_
 refine AllReadyH.cons (o:=⟨some 8,_,_,_,_,_⟩) rfl (fun K hK=>?_) AllReadyH.nil
 go_simp
 refine (oneBit_any _ _ _).mono ?_
 rintro e w104 ⟨rfl,hb104⟩
 refine hK.out _ _ ?_ (fun hS'=>?_)
 ·(exact hS.below hb104)
 clear hK K hS
 have hS:=hS'
 clear hS'
 try simp only [Act.put,List.setIfInBounds_toArray,List.set_cons_zero,List.set_cons_succ]
 refine wpAnyH_ready (rs:=[10]) (by kernel_rfl) (by simp) ?_
 refine AllReadyH.cons (o:=⟨some 14,_,_,_,_,_⟩) rfl (fun K hK=>?_) AllReadyH.nil
 go_simp
 refine (oneBit_any _ _ _).mono ?_
 rintro e w110 ⟨rfl,hb110⟩
 refine hK.out _ _ ?_ (fun hS'=>?_)
 ·(exact hS.below hb110)
 clear hK K hS
 have hS:=hS'
 clear hS'
 try simp only [Act.put,List.setIfInBounds_toArray,List.set_cons_zero,List.set_cons_succ]
 refine wpAnyH_ready (rs:=[11]) (by kernel_rfl) (by simp) ?_
 refine AllReadyH.cons (o:=⟨some 15,_,_,_,_,_⟩) rfl (fun K hK=>?_) AllReadyH.nil
 go_simp
 refine hK.out _ _ ?_ (fun hS'=>?_)
 ·(exact hS.alloc _)
 clear hK K hS
 have hS:=hS'
 clear hS'
 try simp only [Act.put,List.setIfInBounds_toArray,List.set_cons_zero,List.set_cons_succ]
 refine tkR 12 3 rfl hS (fun w' hSw=>by have sA:=hSw.cell;clear hSw;go_simp;try with_reducible rfl) ?_
 simp only [pA,pB,pC]
 refine wpAnyH_done (by kernel_rfl) ?_ _
 have HB1:=Lib.hid (bel_trans (bel_trans (Below.drew (bel_alloc (Below.refl w.heap.size w) _)) hb104) hb110)
 have HO1:=Lib.hid (OwnL.made w110 w.heap.size 2 (baseL (Dsc.mk k f r wr x a n s o)) #[.int .i64 10,.int .i64 1,.int .u64 (u (bitFl 10 a).v),.int .i64 54,.int .i64 1,.int .u64 (u (bitFl 54 (!x)).v)] HB1.out.size rfl (by decide) rfl)
 have HB2:=Lib.hid (bel_alloc HB1.out (.cells #[.int .i64 10,.int .i64 1,.int .u64 (u (bitFl 10 a).v),.int .i64 54,.int .i64 1,.int .u64 (u (bitFl 54 (!x)).v)] 140))
 have hlt1:w.heap.size < w110.heap.size:=by (have h1:=hb104.size;have h2:=hb110.size;simp at h1;omega)
 clear hb104 hb110 hBX
 obtain ⟨W1,hW1⟩:∃ W1,W1=w110.alloc (.cells #[.int .i64 10,.int .i64 1,.int .u64 (u (bitFl 10 a).v),.int .i64 54,.int .i64 1,.int .u64 (u (bitFl 54 (!x)).v)] 140):=⟨_,rfl⟩
 rw [← hW1] at HO1 HB2 hS ⊢
 obtain ⟨G1,hG1⟩:∃ G1,G1=w110.heap.size:=⟨_,rfl⟩
 rw [← hG1] at HO1 hlt1 ⊢
 clear hW1 hG1 HB1
 have hBX:=hS
 clear hS
 have v0:=hBX.cell 0
 simp only [List.getElem?_toArray,List.getElem?_cons_zero] at v0
 go_wp2_with fail
 clear v0
 refine wp_region_held_drew (S:=fun w'=>BoxAt w' w.heap.size #[.int .i64 1,.int .i64 lv,.int .i64 k,.int .i64 f,.bool r,.bool wr,.bool x,.bool a,.bool n,.int .i64 s,.int .i64 o] 378) (by kernel_rfl) (hBX.drew) (fun hS=>?_)
 refine tkR 0 20 rfl hS (fun w' hSw=>by have sA:=hSw.cell;clear hSw;go_simp;try with_reducible rfl) ?_
 simp only [pA,pB,pC]
 refine tkR 1 21 rfl hS (fun w' hSw=>by have sA:=hSw.cell;clear hSw;go_simp;try with_reducible rfl) ?_
 simp only [pA,pB,pC]
 refine tkR 2 22 rfl hS (fun w' hSw=>by have sA:=hSw.cell;clear hSw;go_simp;try with_reducible rfl) ?_
 simp only [pA,pB,pC]
 refine tkR 3 23 rfl hS (fun w' hSw=>by have sA:=hSw.cell;clear hSw;go_simp;try with_reducible rfl) ?_
 simp only [pA,pB,pC]
 refine tkR 4 24 rfl hS (fun w' hSw=>by have sA:=hSw.cell;clear hSw;go_simp;try with_reducible rfl) ?_
 simp only [pA,pB,pC]
 refine tkR 5 25 rfl hS (fun w' hSw=>by have sA:=hSw.cell;clear hSw;go_simp;try with_reducible rfl) ?_
 simp only [pA,pB,pC]
 refine tkR 7 27 rfl hS (fun w' hSw=>by have sA:=hSw.cell;clear hSw;go_simp;try with_reducible rfl) ?_
 simp only [pA,pB,pC]
 refine tkR 8 28 rfl hS (fun w' hSw=>by have sA:=hSw.cell;clear hSw;go_simp;try with_reducible rfl) ?_
 simp only [pA,pB,pC]
 refine tkR 9 29 rfl hS (fun w' hSw=>by have sA:=hSw.cell;clear hSw;go_simp;try with_reducible rfl) ?_
 simp only [pA,pB,pC]
 refine tkR 10 30 rfl hS (fun w' hSw=>by have sA:=hSw.cell;clear hSw;go_simp;try with_reducible rfl) ?_
 simp only [pA,pB,pC]
 refine wpAnyH_ready (rs:=[6]) (by kernel_rfl) (by simp) ?_
 refine AllReadyH.cons (o:=⟨some 26,_,_,_,_,_⟩) rfl (fun K hK=>?_) AllReadyH.nil
 go_simp
 refine (oneBit_any _ _ _).mono ?_
 rintro e w106 ⟨rfl,hb106⟩
 refine hK.out _ _ ?_ (fun hS'=>?_)
 ·(exact hS.below hb106)
 clear hK K hS
 have hS:=hS'
 clear hS'
 try simp only [Act.put,List.setIfInBounds_toArray,List.set_cons_zero,List.set_cons_succ]
 refine wpAnyH_ready (rs:=[11]) (by kernel_rfl) (by simp) ?_
 refine AllReadyH.cons (o:=⟨some 31,_,_,_,_,_⟩) rfl (fun K hK=>?_) AllReadyH.nil
 go_simp
 refine (oneBit_any _ _ _).mono ?_
 rintro e w111 ⟨rfl,hb111⟩
 refine hK.out _ _ ?_ (fun hS'=>?_)
 ·(exact hS.below hb111)
 clear hK K hS
 have hS:=hS'
 clear hS'
 try simp only [Act.put,List.setIfInBounds_toArray,List.set_cons_zero,List.set_cons_succ]
 refine wpAnyH_ready (rs:=[12]) (by kernel_rfl) (by simp) ?_
 refine AllReadyH.cons (o:=⟨some 32,_,_,_,_,_⟩) rfl (fun K hK=>?_) AllReadyH.nil
 go_simp
 refine hK.out _ _ ?_ (fun hS'=>?_)
 ·(exact hS.alloc _)
 clear hK K hS
 have hS:=hS'
 clear hS'
 try simp only [Act.put,List.setIfInBounds_toArray,List.set_cons_zero,List.set_cons_succ]
 refine wpAnyH_ready (rs:=[13]) (by kernel_rfl) (by simp) ?_
 refine AllReadyH.cons (o:=⟨some 33,_,_,_,_,_⟩) rfl (fun K hK=>?_) AllReadyH.nil
 have HC1:=Lib.hid (bel_trans (bel_trans (Below.drew (Below.refl W1.heap.size W1)) hb106) hb111)
 refine step_appL (by rfl) _ _ (by rfl) w.heap.size G1 2 2 w111.heap.size 2 2 (baseL (Dsc.mk k f r wr x a n s o)) (oneL (Dsc.mk k f r wr x a n s o)) (by rfl) (by rfl) rfl rfl ((HO1.out.below HC1.out).below (bel_alloc (Below.refl _ _) _)) (OwnL.made w111 w.heap.size 2 (oneL (Dsc.mk k f r wr x a n s o)) #[.int .i64 7,.int .i64 1,.int .u64 (u (bitFl 7 (!wr)).v),.int .i64 11,.int .i64 1,.int .u64 (u (bitFl 11 n).v)] (Nat.le_trans HB2.out.size HC1.out.size) rfl (by decide) rfl) (by decide) (by decide) (Nat.le_trans (Nat.le_trans HB2.out.size HC1.out.size) (bel_alloc (Below.refl _ _) _).size) ?_
 intro g cap w9 hown9 hb9 hfar
 refine hK.out _ _ ?_ (fun hS'=>?_)
 ·(exact ⟨(hfar _ hS.lt (by omega)).trans hS.h⟩)
 clear hK K hS
 have hS:=hS'
 clear hS'
 try simp only [Act.put,List.setIfInBounds_toArray,List.set_cons_zero,List.set_cons_succ]
 refine tkR 14 2 rfl hS (fun w' hSw=>by have sA:=hSw.cell;clear hSw;go_simp;try with_reducible rfl) ?_
 simp only [pA,pB,pC]
 refine wpAnyH_done (by kernel_rfl) ?_ _
 go_wp2
 refine bodyPost_ret (v:=.slice (some ⟨g,0,none⟩) (2+2) cap) (by simp [results,Tryz.results349,go_sem]) rfl ?_
 refine ⟨g,cap,rfl,?_,?_⟩
 ·exact hown9
 ·exact ((HB2.out.trans (HC1.out.mono HB2.out.size)).alloc (Nat.le_trans HB2.out.size HC1.out.size) _).trans hb9
set_option maxRecDepth 100000 in
set_option maxHeartbeats 3200000 in
theorem attrFields_two (st lv:Int) (k f:Int) (r wr x a n:Bool) (s o:Int) (w:World) (t1:(st==1)=false) :
  Calls Tryz.prog 349 #[.agg #[.int .i64 st,.int .i64 lv,.int .i64 k,.int .i64 f,.bool r,.bool wr,.bool x,.bool a,.bool n,.int .i64 s,.int .i64 o]] w (EndL w (baseL (Dsc.mk k f r wr x a n s o)++twoL (Dsc.mk k f r wr x a n s o))):=by
 have hBX:=BoxAt.new w #[.int .i64 st,.int .i64 lv,.int .i64 k,.int .i64 f,.bool r,.bool wr,.bool x,.bool a,.bool n,.int .i64 s,.int .i64 o] 378
 go_enter Tryz.func349,Tryz.ntmps349
 go_wp2_with fail
 refine wp_region_held_drew (S:=fun w'=>BoxAt w' w.heap.size #[.int .i64 st,.int .i64 lv,.int .i64 k,.int .i64 f,.bool r,.bool wr,.bool x,.bool a,.bool n,.int .i64 s,.int .i64 o] 378) (by kernel_rfl) (hBX.drew) (fun hS=>?_)
 refine tkR 0 4 rfl hS (fun w' hSw=>by have sA:=hSw.cell;clear hSw;go_simp;try with_reducible rfl) ?_
 simp only [pA,pB,pC]
 refine tkR 1 5 rfl hS (fun w' hSw=>by have sA:=hSw.cell;clear hSw;go_simp;try with_reducible rfl) ?_
 simp only [pA,pB,pC]
 refine tkR 2 6 rfl hS (fun w' hSw=>by have sA:=hSw.cell;clear hSw;go_simp;try with_reducible rfl) ?_
 simp only [pA,pB,pC]
 refine tkR 3 7 rfl hS (fun w' hSw=>by have sA:=hSw.cell;clear hSw;go_simp;try with_reducible rfl) ?_
 simp only [pA,pB,pC]
 refine tkR 5 9 rfl hS (fun w' hSw=>by have sA:=hSw.cell;clear hSw;go_simp;try with_reducible rfl) ?_
 simp only [pA,pB,pC]
 refine tkR 6 10 rfl hS (fun w' hSw=>by have sA:=hSw.cell;clear hSw;go_simp;try with_reducible rfl) ?_
 simp only [pA,pB,pC]
 refine tkR 7 11 rfl hS (fun w' hSw=>by have sA:=hSw.cell;clear hSw;go_simp;try with_reducible rfl) ?_
 simp only [pA,pB,pC]
 refine tkR 8 12 rfl hS (fun w' hSw=>by have sA:=hSw.cell;clear hSw;go_simp;try with_reducible rfl) ?_
 simp only [pA,pB,pC]
 refine tkR 9 13 rfl hS (fun w' hSw=>by have sA:=hSw.cell;clear hSw;go_simp;try with_reducible rfl) ?_
 simp only [pA,pB,pC]
 refine wpAnyH_ready (rs:=[4]) (by kernel_rfl) (by simp) ?_
 refine AllReadyH.cons (o:=⟨some 8,_,_,_,_,_⟩) rfl (fun K hK=>?_) AllReadyH.nil
 go_simp
 refine (oneBit_any _ _ _).mono ?_
 rintro e w104 ⟨rfl,hb104⟩
 refine hK.out _ _ ?_ (fun hS'=>?_)
 ·(exact hS.below hb104)
 clear hK K hS
 have hS:=hS'
 clear hS'
 try simp only [Act.put,List.setIfInBounds_toArray,List.set_cons_zero,List.set_cons_succ]
 refine wpAnyH_ready (rs:=[10]) (by kernel_rfl) (by simp) ?_
 refine AllReadyH.cons (o:=⟨some 14,_,_,_,_,_⟩) rfl (fun K hK=>?_) AllReadyH.nil
 go_simp
 refine (oneBit_any _ _ _).mono ?_
 rintro e w110 ⟨rfl,hb110⟩
 refine hK.out _ _ ?_ (fun hS'=>?_)
 ·(exact hS.below hb110)
 clear hK K hS
 have hS:=hS'
 clear hS'
 try simp only [Act.put,List.setIfInBounds_toArray,List.set_cons_zero,List.set_cons_succ]
 refine wpAnyH_ready (rs:=[11]) (by kernel_rfl) (by simp) ?_
 refine AllReadyH.cons (o:=⟨some 15,_,_,_,_,_⟩) rfl (fun K hK=>?_) AllReadyH.nil
 go_simp
 refine hK.out _ _ ?_ (fun hS'=>?_)
 ·(exact hS.alloc _)
 clear hK K hS
 have hS:=hS'
 clear hS'
 try simp only [Act.put,List.setIfInBounds_toArray,List.set_cons_zero,List.set_cons_succ]
 refine tkR 12 3 rfl hS (fun w' hSw=>by have sA:=hSw.cell;clear hSw;go_simp;try with_reducible rfl) ?_
 simp only [pA,pB,pC]
 refine wpAnyH_done (by kernel_rfl) ?_ _
 have HB1:=Lib.hid (bel_trans (bel_trans (Below.drew (bel_alloc (Below.refl w.heap.size w) _)) hb104) hb110)
 have HO1:=Lib.hid (OwnL.made w110 w.heap.size 2 (baseL (Dsc.mk k f r wr x a n s o)) #[.int .i64 10,.int .i64 1,.int .u64 (u (bitFl 10 a).v),.int .i64 54,.int .i64 1,.int .u64 (u (bitFl 54 (!x)).v)] HB1.out.size rfl (by decide) rfl)
 have HB2:=Lib.hid (bel_alloc HB1.out (.cells #[.int .i64 10,.int .i64 1,.int .u64 (u (bitFl 10 a).v),.int .i64 54,.int .i64 1,.int .u64 (u (bitFl 54 (!x)).v)] 140))
 have hlt1:w.heap.size < w110.heap.size:=by (have h1:=hb104.size;have h2:=hb110.size;simp at h1;omega)
 clear hb104 hb110 hBX
 obtain ⟨W1,hW1⟩:∃ W1,W1=w110.alloc (.cells #[.int .i64 10,.int .i64 1,.int .u64 (u (bitFl 10 a).v),.int .i64 54,.int .i64 1,.int .u64 (u (bitFl 54 (!x)).v)] 140):=⟨_,rfl⟩
 rw [← hW1] at HO1 HB2 hS ⊢
 obtain ⟨G1,hG1⟩:∃ G1,G1=w110.heap.size:=⟨_,rfl⟩
 rw [← hG1] at HO1 hlt1 ⊢
 clear hW1 hG1 HB1
 have hBX:=hS
 clear hS
 have v0:=hBX.cell 0
 simp only [List.getElem?_toArray,List.getElem?_cons_zero] at v0
 go_wp2_with fail
 clear v0
 refine wp_region_held_drew (S:=fun w'=>BoxAt w' w.heap.size #[.int .i64 st,.int .i64 lv,.int .i64 k,.int .i64 f,.bool r,.bool wr,.bool x,.bool a,.bool n,.int .i64 s,.int .i64 o] 378) (by kernel_rfl) (hBX.drew) (fun hS=>?_)
 refine tkR 0 34 rfl hS (fun w' hSw=>by have sA:=hSw.cell;clear hSw;go_simp;try with_reducible rfl) ?_
 simp only [pA,pB,pC]
 refine tkR 1 35 rfl hS (fun w' hSw=>by have sA:=hSw.cell;clear hSw;go_simp;try with_reducible rfl) ?_
 simp only [pA,pB,pC]
 refine tkR 2 36 rfl hS (fun w' hSw=>by have sA:=hSw.cell;clear hSw;go_simp;try with_reducible rfl) ?_
 simp only [pA,pB,pC]
 refine tkR 3 37 rfl hS (fun w' hSw=>by have sA:=hSw.cell;clear hSw;go_simp;try with_reducible rfl) ?_
 simp only [pA,pB,pC]
 refine tkR 4 38 rfl hS (fun w' hSw=>by have sA:=hSw.cell;clear hSw;go_simp;try with_reducible rfl) ?_
 simp only [pA,pB,pC]
 refine tkR 6 40 rfl hS (fun w' hSw=>by have sA:=hSw.cell;clear hSw;go_simp;try with_reducible rfl) ?_
 simp only [pA,pB,pC]
 refine tkR 7 41 rfl hS (fun w' hSw=>by have sA:=hSw.cell;clear hSw;go_simp;try with_reducible rfl) ?_
 simp only [pA,pB,pC]
 refine tkR 8 42 rfl hS (fun w' hSw=>by have sA:=hSw.cell;clear hSw;go_simp;try with_reducible rfl) ?_
 simp only [pA,pB,pC]
 refine tkR 9 43 rfl hS (fun w' hSw=>by have sA:=hSw.cell;clear hSw;go_simp;try with_reducible rfl) ?_
 simp only [pA,pB,pC]
 refine tkR 11 45 rfl hS (fun w' hSw=>by have sA:=hSw.cell;clear hSw;go_simp;try with_reducible rfl) ?_
 simp only [pA,pB,pC]
 refine tkR 12 46 rfl hS (fun w' hSw=>by have sA:=hSw.cell;clear hSw;go_simp;try with_reducible rfl) ?_
 simp only [pA,pB,pC]
 refine tkR 13 47 rfl hS (fun w' hSw=>by have sA:=hSw.cell;clear hSw;go_simp;try with_reducible rfl) ?_
 simp only [pA,pB,pC]
 refine tkR 14 48 rfl hS (fun w' hSw=>by have sA:=hSw.cell;clear hSw;go_simp;try with_reducible rfl) ?_
 simp only [pA,pB,pC]
 refine wpAnyH_ready (rs:=[5]) (by kernel_rfl) (by simp) ?_
 refine AllReadyH.cons (o:=⟨some 39,_,_,_,_,_⟩) rfl (fun K hK=>?_) AllReadyH.nil
 go_simp
 refine (oneBit_any _ _ _).mono ?_
 rintro e w105 ⟨rfl,hb105⟩
 refine hK.out _ _ ?_ (fun hS'=>?_)
 ·(exact hS.below hb105)
 clear hK K hS
 have hS:=hS'
 clear hS'
 try simp only [Act.put,List.setIfInBounds_toArray,List.set_cons_zero,List.set_cons_succ]
 refine wpAnyH_ready (rs:=[10]) (by kernel_rfl) (by simp) ?_
 refine AllReadyH.cons (o:=⟨some 44,_,_,_,_,_⟩) rfl (fun K hK=>?_) AllReadyH.nil
 go_simp
 refine (oneBit_any _ _ _).mono ?_
 rintro e w110 ⟨rfl,hb110⟩
 refine hK.out _ _ ?_ (fun hS'=>?_)
 ·(exact hS.below hb110)
 clear hK K hS
 have hS:=hS'
 clear hS'
 try simp only [Act.put,List.setIfInBounds_toArray,List.set_cons_zero,List.set_cons_succ]
 refine wpAnyH_ready (rs:=[15]) (by kernel_rfl) (by simp) ?_
 refine AllReadyH.cons (o:=⟨some 49,_,_,_,_,_⟩) rfl (fun K hK=>?_) AllReadyH.nil
 go_simp
 refine (someBits_any _ _ _ _).mono ?_
 rintro e w115 ⟨rfl,hb115⟩
 refine hK.out _ _ ?_ (fun hS'=>?_)
 ·(exact hS.below hb115)
 clear hK K hS
 have hS:=hS'
 clear hS'
 try simp only [Act.put,List.setIfInBounds_toArray,List.set_cons_zero,List.set_cons_succ]
 refine wpAnyH_ready (rs:=[16]) (by kernel_rfl) (by simp) ?_
 refine AllReadyH.cons (o:=⟨some 50,_,_,_,_,_⟩) rfl (fun K hK=>?_) AllReadyH.nil
 go_simp
 refine hK.out _ _ ?_ (fun hS'=>?_)
 ·(exact hS.alloc _)
 clear hK K hS
 have hS:=hS'
 clear hS'
 try simp only [Act.put,List.setIfInBounds_toArray,List.set_cons_zero,List.set_cons_succ]
 refine wpAnyH_ready (rs:=[17]) (by kernel_rfl) (by simp) ?_
 refine AllReadyH.cons (o:=⟨some 51,_,_,_,_,_⟩) rfl (fun K hK=>?_) AllReadyH.nil
 have HC1:=Lib.hid (bel_trans (bel_trans (bel_trans (Below.drew (Below.refl W1.heap.size W1)) hb105) hb110) hb115)
 refine step_appL (by rfl) _ _ (by rfl) w.heap.size G1 2 2 w115.heap.size 3 3 (baseL (Dsc.mk k f r wr x a n s o)) (twoL (Dsc.mk k f r wr x a n s o)) (by rfl) (by rfl) rfl rfl ((HO1.out.below HC1.out).below (bel_alloc (Below.refl _ _) _)) (OwnL.made w115 w.heap.size 3 (twoL (Dsc.mk k f r wr x a n s o)) #[.int .i64 6,.int .i64 1,.int .u64 (u (bitFl 6 r).v),.int .i64 7,.int .i64 1,.int .u64 (u (bitFl 7 wr).v),.int .i64 55,.int .i64 4,.int .u64 (u (numFl 55 4 s).v)] (Nat.le_trans HB2.out.size HC1.out.size) rfl (by decide) rfl) (by decide) (by decide) (Nat.le_trans (Nat.le_trans HB2.out.size HC1.out.size) (bel_alloc (Below.refl _ _) _).size) ?_
 intro g cap w9 hown9 hb9 hfar
 refine hK.out _ _ ?_ (fun hS'=>?_)
 ·(exact ⟨(hfar _ hS.lt (by omega)).trans hS.h⟩)
 clear hK K hS
 have hS:=hS'
 clear hS'
 try simp only [Act.put,List.setIfInBounds_toArray,List.set_cons_zero,List.set_cons_succ]
 refine tkR 18 2 rfl hS (fun w' hSw=>by have sA:=hSw.cell;clear hSw;go_simp;try with_reducible rfl) ?_
 simp only [pA,pB,pC]
 refine wpAnyH_done (by kernel_rfl) ?_ _
 go_wp2
 refine bodyPost_ret (v:=.slice (some ⟨g,0,none⟩) (2+3) cap) (by simp [results,Tryz.results349,go_sem]) rfl ?_
 refine ⟨g,cap,rfl,?_,?_⟩
 ·exact hown9
 ·exact ((HB2.out.trans (HC1.out.mono HB2.out.size)).alloc (Nat.le_trans HB2.out.size HC1.out.size) _).trans hb9
theorem attrL_len (st:Int) (d:Dsc):0 < (attrL st d).length∧(attrL st d).length≤5:=by
 unfold attrL
 split
 ·exact ⟨Nat.le_of_ble_eq_true rfl,Nat.le_of_ble_eq_true rfl⟩
 ·exact ⟨Nat.le_of_ble_eq_true rfl,Nat.le_of_ble_eq_true rfl⟩
theorem attrFields_any (st lv:Int) (k f:Int) (r wr x a n:Bool) (s o:Int) (w:World) :
  Calls Tryz.prog 349 #[.agg #[.int .i64 st,.int .i64 lv,.int .i64 k,.int .i64 f,.bool r,.bool wr,.bool x,.bool a,.bool n,.int .i64 s,.int .i64 o]] w (EndL w (attrL st (Dsc.mk k f r wr x a n s o))):=by
 unfold attrL
 by_cases h:st=1
 ·subst h
  rw [if_pos rfl]
  exact attrFields_one lv k f r wr x a n s o w
 ·rw [if_neg h]
  exact attrFields_two st lv k f r wr x a n s o w (by simpa using h)
theorem fields_none (st lv f:Int) (r wr x a n:Bool) (s o:Int) (w:World) :
  Calls Tryz.prog 338 #[.agg #[.int .i64 st,.int .i64 lv,.int .i64 0,.int .i64 f,.bool r,.bool wr,.bool x,.bool a,.bool n,.int .i64 s,.int .i64 o]] w (EndL w [numFl 4 4 o]):=by
 go_enter Tryz.func338,Tryz.ntmps338
 go_wp2_with (go_at_call 347;refine (someBits_any _ _ _ _).mono ?_;rintro e w1 ⟨rfl,hb1⟩)
 refine bodyPost_ret (v:=.slice (some ⟨w1.heap.size,0,none⟩) 1 1) (by simp [results,Tryz.results338,go_sem]) rfl ?_
 have hb2:=bel_trans (bel_alloc (Below.refl w.heap.size w) _) hb1
 exact ⟨w1.heap.size,1,rfl,OwnL.made w1 w.heap.size 1 [numFl 4 4 o] _ hb2.size rfl (by decide) rfl,bel_alloc hb2 _⟩
set_option maxRecDepth 100000 in
set_option maxHeartbeats 1600000 in
theorem fields_table (st lv:Int) (k f:Int) (r wr x a n:Bool) (s o:Int) (w:World) (t0:(k==0)=false) (t2:(k==2)=false) :
  Calls Tryz.prog 338 #[.agg #[.int .i64 st,.int .i64 lv,.int .i64 k,.int .i64 f,.bool r,.bool wr,.bool x,.bool a,.bool n,.int .i64 s,.int .i64 o]] w (EndL w [bitFl 0 true,bitFl 1 true,numFl 12 12 f]):=by
 have hBX:=BoxAt.new w #[.int .i64 st,.int .i64 lv,.int .i64 k,.int .i64 f,.bool r,.bool wr,.bool x,.bool a,.bool n,.int .i64 s,.int .i64 o] 378
 go_enter Tryz.func338,Tryz.ntmps338
 go_wp2_with fail
 refine wp_region_held_drew (S:=fun w'=>BoxAt w' w.heap.size #[.int .i64 st,.int .i64 lv,.int .i64 k,.int .i64 f,.bool r,.bool wr,.bool x,.bool a,.bool n,.int .i64 s,.int .i64 o] 378) (by kernel_rfl) (hBX.drew) (fun hS=>?_)
 refine tkR 1 19 rfl hS (fun w' hSw=>by have sA:=hSw.cell;clear hSw;go_simp;try with_reducible rfl) ?_
 simp only [pA,pB,pC]
 refine tkR 2 20 rfl hS (fun w' hSw=>by have sA:=hSw.cell;clear hSw;go_simp;try with_reducible rfl) ?_
 simp only [pA,pB,pC]
 refine tkR 10 28 rfl hS (fun w' hSw=>by have sA:=hSw.cell;clear hSw;go_simp;try with_reducible rfl) ?_
 simp only [pA,pB,pC]
 refine tkR 11 29 rfl hS (fun w' hSw=>by have sA:=hSw.cell;clear hSw;go_simp;try with_reducible rfl) ?_
 simp only [pA,pB,pC]
 refine tkR 12 30 rfl hS (fun w' hSw=>by have sA:=hSw.cell;clear hSw;go_simp;try with_reducible rfl) ?_
 simp only [pA,pB,pC]
 refine wpAnyH_ready (rs:=[0]) (by kernel_rfl) (by simp) ?_
 refine AllReadyH.cons (o:=⟨some 18,_,_,_,_,_⟩) rfl (fun K hK=>?_) AllReadyH.nil
 go_simp
 refine (oneBit_any _ _ _).mono ?_
 rintro e w100 ⟨rfl,hb100⟩
 refine hK.out _ _ ?_ (fun hS'=>?_)
 ·(exact hS.below hb100)
 clear hK K hS
 have hS:=hS'
 clear hS'
 try simp only [Act.put,List.setIfInBounds_toArray,List.set_cons_zero,List.set_cons_succ]
 refine tkR 3 21 rfl hS (fun w' hSw=>by have sA:=hSw.cell;clear hSw;go_simp;try with_reducible rfl) ?_
 simp only [pA,pB,pC]
 refine tkU 4 22 rfl hS ?_
 simp only [pA,pB,pC]
 refine tkU 5 23 rfl hS ?_
 simp only [pA,pB,pC]
 refine tkU 6 24 rfl hS ?_
 simp only [pA,pB,pC]
 refine tkU 7 25 rfl hS ?_
 simp only [pA,pB,pC]
 refine tkR 8 26 rfl hS (fun w' hSw=>by have sA:=hSw.cell;clear hSw;go_simp;try with_reducible rfl) ?_
 simp only [pA,pB,pC]
 refine wpAnyH_ready (rs:=[9]) (by kernel_rfl) (by simp) ?_
 refine AllReadyH.cons (o:=⟨some 27,_,_,_,_,_⟩) rfl (fun K hK=>?_) AllReadyH.nil
 go_simp
 refine (oneBit_any _ _ _).mono ?_
 rintro e w109 ⟨rfl,hb109⟩
 refine hK.out _ _ ?_ (fun hS'=>?_)
 ·(exact hS.below hb109)
 clear hK K hS
 have hS:=hS'
 clear hS'
 try simp only [Act.put,List.setIfInBounds_toArray,List.set_cons_zero,List.set_cons_succ]
 refine wpAnyH_ready (rs:=[13]) (by kernel_rfl) (by simp) ?_
 refine AllReadyH.cons (o:=⟨some 31,_,_,_,_,_⟩) rfl (fun K hK=>?_) AllReadyH.nil
 go_simp
 refine (someBits_any _ _ _ _).mono ?_
 rintro e w113 ⟨rfl,hb113⟩
 refine hK.out _ _ ?_ (fun hS'=>?_)
 ·(exact hS.below hb113)
 clear hK K hS
 have hS:=hS'
 clear hS'
 try simp only [Act.put,List.setIfInBounds_toArray,List.set_cons_zero,List.set_cons_succ]
 refine wpAnyH_ready (rs:=[14]) (by kernel_rfl) (by simp) ?_
 refine AllReadyH.cons (o:=⟨some 32,_,_,_,_,_⟩) rfl (fun K hK=>?_) AllReadyH.nil
 go_simp
 refine hK.out _ _ ?_ (fun hS'=>?_)
 ·(exact hS.alloc _)
 clear hK K hS
 have hS:=hS'
 clear hS'
 try simp only [Act.put,List.setIfInBounds_toArray,List.set_cons_zero,List.set_cons_succ]
 refine tkR 15 4 rfl hS (fun w' hSw=>by have sA:=hSw.cell;clear hSw;go_simp;try with_reducible rfl) ?_
 simp only [pA,pB,pC]
 refine wpAnyH_done (by kernel_rfl) ?_ _
 have HB1:=Lib.hid (bel_trans (bel_trans (bel_trans (Below.drew (bel_alloc (Below.refl w.heap.size w) _)) hb100) hb109) hb113)
 have HO1:=Lib.hid (OwnL.made w113 w.heap.size 3 [bitFl 0 true,bitFl 1 true,numFl 12 12 f] #[.int .i64 0,.int .i64 1,.int .u64 (u (bitFl 0 true).v),.int .i64 1,.int .i64 1,.int .u64 (u (bitFl 1 true).v),.int .i64 12,.int .i64 12,.int .u64 (u (numFl 12 12 f).v)] HB1.out.size rfl (by decide) rfl)
 have HB2:=Lib.hid (bel_alloc HB1.out (.cells #[.int .i64 0,.int .i64 1,.int .u64 (u (bitFl 0 true).v),.int .i64 1,.int .i64 1,.int .u64 (u (bitFl 1 true).v),.int .i64 12,.int .i64 12,.int .u64 (u (numFl 12 12 f).v)] 140))
 go_wp2
 refine bodyPost_ret (v:=.slice (some ⟨w113.heap.size,0,none⟩) 3 3) (by simp [results,Tryz.results338,go_sem]) rfl ?_
 exact ⟨w113.heap.size,3,rfl,HO1.out,HB2.out⟩
set_option maxRecDepth 100000 in
set_option maxHeartbeats 1600000 in
theorem fields_leaf (st lv f:Int) (r wr x a n:Bool) (s o:Int) (w:World) (Z:List Fld) (hZ:Z=[bitFl 0 true,bitFl 1 (lv==3),numFl 12 12 f]++attrL st (Dsc.mk 2 f r wr x a n s o)) :
  Calls Tryz.prog 338 #[.agg #[.int .i64 st,.int .i64 lv,.int .i64 2,.int .i64 f,.bool r,.bool wr,.bool x,.bool a,.bool n,.int .i64 s,.int .i64 o]] w (EndL w Z):=by
 have HZ:=Lib.hid hZ
 clear hZ
 have hBX:=BoxAt.new w #[.int .i64 st,.int .i64 lv,.int .i64 2,.int .i64 f,.bool r,.bool wr,.bool x,.bool a,.bool n,.int .i64 s,.int .i64 o] 378
 go_enter Tryz.func338,Tryz.ntmps338
 go_wp2_with fail
 refine wp_region_held_drew (S:=fun w'=>BoxAt w' w.heap.size #[.int .i64 st,.int .i64 lv,.int .i64 2,.int .i64 f,.bool r,.bool wr,.bool x,.bool a,.bool n,.int .i64 s,.int .i64 o] 378) (by kernel_rfl) (hBX.drew) (fun hS=>?_)
 refine tkR 1 19 rfl hS (fun w' hSw=>by have sA:=hSw.cell;clear hSw;go_simp;try with_reducible rfl) ?_
 simp only [pA,pB,pC]
 refine tkR 2 20 rfl hS (fun w' hSw=>by have sA:=hSw.cell;clear hSw;go_simp;try with_reducible rfl) ?_
 simp only [pA,pB,pC]
 refine tkR 10 28 rfl hS (fun w' hSw=>by have sA:=hSw.cell;clear hSw;go_simp;try with_reducible rfl) ?_
 simp only [pA,pB,pC]
 refine tkR 11 29 rfl hS (fun w' hSw=>by have sA:=hSw.cell;clear hSw;go_simp;try with_reducible rfl) ?_
 simp only [pA,pB,pC]
 refine tkR 12 30 rfl hS (fun w' hSw=>by have sA:=hSw.cell;clear hSw;go_simp;try with_reducible rfl) ?_
 simp only [pA,pB,pC]
 refine wpAnyH_ready (rs:=[0]) (by kernel_rfl) (by simp) ?_
 refine AllReadyH.cons (o:=⟨some 18,_,_,_,_,_⟩) rfl (fun K hK=>?_) AllReadyH.nil
 go_simp
 refine (oneBit_any _ _ _).mono ?_
 rintro e w100 ⟨rfl,hb100⟩
 refine hK.out _ _ ?_ (fun hS'=>?_)
 ·(exact hS.below hb100)
 clear hK K hS
 have hS:=hS'
 clear hS'
 try simp only [Act.put,List.setIfInBounds_toArray,List.set_cons_zero,List.set_cons_succ]
 refine tkR 3 21 rfl hS (fun w' hSw=>by have sA:=hSw.cell;clear hSw;go_simp;try with_reducible rfl) ?_
 simp only [pA,pB,pC]
 refine tkR 4 22 rfl hS (fun w' hSw=>by have sA:=hSw.cell;clear hSw;go_simp;try with_reducible rfl) ?_
 simp only [pA,pB,pC]
 refine tkR 5 23 rfl hS (fun w' hSw=>by have sA:=hSw.cell;clear hSw;go_simp;try with_reducible rfl) ?_
 simp only [pA,pB,pC]
 refine tkR 6 24 rfl hS (fun w' hSw=>by have sA:=hSw.cell;clear hSw;go_simp;try with_reducible rfl) ?_
 simp only [pA,pB,pC]
 refine tkR 7 25 rfl hS (fun w' hSw=>by have sA:=hSw.cell;clear hSw;go_simp;try with_reducible rfl) ?_
 simp only [pA,pB,pC]
 refine tkR 8 26 rfl hS (fun w' hSw=>by have sA:=hSw.cell;clear hSw;go_simp;try with_reducible rfl) ?_
 simp only [pA,pB,pC]
 refine wpAnyH_ready (rs:=[9]) (by kernel_rfl) (by simp) ?_
 refine AllReadyH.cons (o:=⟨some 27,_,_,_,_,_⟩) rfl (fun K hK=>?_) AllReadyH.nil
 go_simp
 refine (oneBit_any _ _ _).mono ?_
 rintro e w109 ⟨rfl,hb109⟩
 refine hK.out _ _ ?_ (fun hS'=>?_)
 ·(exact hS.below hb109)
 clear hK K hS
 have hS:=hS'
 clear hS'
 try simp only [Act.put,List.setIfInBounds_toArray,List.set_cons_zero,List.set_cons_succ]
 refine wpAnyH_ready (rs:=[13]) (by kernel_rfl) (by simp) ?_
 refine AllReadyH.cons (o:=⟨some 31,_,_,_,_,_⟩) rfl (fun K hK=>?_) AllReadyH.nil
 go_simp
 refine (someBits_any _ _ _ _).mono ?_
 rintro e w113 ⟨rfl,hb113⟩
 refine hK.out _ _ ?_ (fun hS'=>?_)
 ·(exact hS.below hb113)
 clear hK K hS
 have hS:=hS'
 clear hS'
 try simp only [Act.put,List.setIfInBounds_toArray,List.set_cons_zero,List.set_cons_succ]
 refine wpAnyH_ready (rs:=[14]) (by kernel_rfl) (by simp) ?_
 refine AllReadyH.cons (o:=⟨some 32,_,_,_,_,_⟩) rfl (fun K hK=>?_) AllReadyH.nil
 go_simp
 refine hK.out _ _ ?_ (fun hS'=>?_)
 ·(exact hS.alloc _)
 clear hK K hS
 have hS:=hS'
 clear hS'
 try simp only [Act.put,List.setIfInBounds_toArray,List.set_cons_zero,List.set_cons_succ]
 refine tkR 15 4 rfl hS (fun w' hSw=>by have sA:=hSw.cell;clear hSw;go_simp;try with_reducible rfl) ?_
 simp only [pA,pB,pC]
 refine wpAnyH_done (by kernel_rfl) ?_ _
 have HB1:=Lib.hid (bel_trans (bel_trans (bel_trans (Below.drew (bel_alloc (Below.refl w.heap.size w) _)) hb100) hb109) hb113)
 have HO1:=Lib.hid (OwnL.made w113 w.heap.size 3 [bitFl 0 true,bitFl 1 (lv==3),numFl 12 12 f] #[.int .i64 0,.int .i64 1,.int .u64 (u (bitFl 0 true).v),.int .i64 1,.int .i64 1,.int .u64 (u (bitFl 1 (lv==3)).v),.int .i64 12,.int .i64 12,.int .u64 (u (numFl 12 12 f).v)] HB1.out.size rfl (by decide) rfl)
 have HB2:=Lib.hid (bel_alloc HB1.out (.cells #[.int .i64 0,.int .i64 1,.int .u64 (u (bitFl 0 true).v),.int .i64 1,.int .i64 1,.int .u64 (u (bitFl 1 (lv==3)).v),.int .i64 12,.int .i64 12,.int .u64 (u (numFl 12 12 f).v)] 140))
 clear hBX hb100 hb109 hb113
 obtain ⟨W1,hW1⟩:∃ W1,W1=w113.alloc (.cells #[.int .i64 0,.int .i64 1,.int .u64 (u (bitFl 0 true).v),.int .i64 1,.int .i64 1,.int .u64 (u (bitFl 1 (lv==3)).v),.int .i64 12,.int .i64 12,.int .u64 (u (numFl 12 12 f).v)] 140):=⟨_,rfl⟩
 rw [← hW1] at HO1 HB2 hS ⊢
 obtain ⟨G1,hG1⟩:∃ G1,G1=w113.heap.size:=⟨_,rfl⟩
 rw [← hG1] at HO1 ⊢
 clear hW1 hG1 HB1
 have v0:=hS.cell 0
 have v1:=hS.cell 1
 have v2:=hS.cell 2
 have v3:=hS.cell 3
 have v4:=hS.cell 4
 have v5:=hS.cell 5
 have v6:=hS.cell 6
 have v7:=hS.cell 7
 have v8:=hS.cell 8
 have v9:=hS.cell 9
 have v10:=hS.cell 10
 simp only [List.getElem?_toArray,List.getElem?_cons_zero,List.getElem?_cons_succ] at v0 v1 v2 v3 v4 v5 v6 v7 v8 v9 v10
 clear hS
 obtain ⟨hap,hal⟩:=attrL_len st (Dsc.mk 2 f r wr x a n s o)
 have HA:=Lib.hid (fun W=>attrFields_any st lv 2 f r wr x a n s o W)
 obtain ⟨M,hM⟩:∃ M,M=attrL st (Dsc.mk 2 f r wr x a n s o):=⟨_,rfl⟩
 rw [← hM] at hal hap HA
 have HMq:=Lib.hid hM
 clear hM
 go_wp2_with fail
 refine (HA.out _).mono ?_
 rintro e w2 ⟨g,c,rfl,hO,hb⟩
 have HC1:=Lib.hid hb
 have HM:=Lib.hid (hO.base HB2.out.size)
 clear hb hO HA
 go_wp2_with (first | (at_builtin;refine wpList_appL rfl _ _ rfl w.heap.size G1 3 3 g M.length c [bitFl 0 true,bitFl 1 (lv==3),numFl 12 12 f] M rfl rfl rfl rfl (HO1.out.below HC1.out) HM.out hap (by omega) (Nat.le_trans HB2.out.size HC1.out.size) ?_;intro g2 cap w3 hO3 hb3))
 refine bodyPost_ret (v:=.slice (some ⟨g2,0,none⟩) (3+M.length) cap) (by simp [results,Tryz.results338,go_sem]) rfl ?_
 have hz:Z=[bitFl 0 true,bitFl 1 (lv==3),numFl 12 12 f]++M:=by rw [HZ.out,HMq.out]
 have hlen:Z.length=3+M.length:=by (rw [hz,List.length_append];rfl)
 refine ⟨g2,cap,by rw [hlen],by rw [hlen,hz];exact hO3,?_⟩
 exact (HB2.out.trans (HC1.out.mono HB2.out.size)).trans hb3
theorem fields_any (st lv:Int) (k f:Int) (r wr x a n:Bool) (s o:Int) (w:World) :
  Calls Tryz.prog 338 #[.agg #[.int .i64 st,.int .i64 lv,.int .i64 k,.int .i64 f,.bool r,.bool wr,.bool x,.bool a,.bool n,.int .i64 s,.int .i64 o]] w (EndL w (fieldsL st lv (Dsc.mk k f r wr x a n s o))):=by
 by_cases k0:k=0
 ·subst k0
  exact fields_none st lv f r wr x a n s o w
 ·by_cases k2:k=2
  ·subst k2
   have he:fieldsL st lv (Dsc.mk 2 f r wr x a n s o)=[bitFl 0 true,bitFl 1 (decide (lv=3)),numFl 12 12 f]++attrL st (Dsc.mk 2 f r wr x a n s o):=by
    simp [fieldsL,headL]
   refine fields_leaf st lv f r wr x a n s o w _ ?_
   rw [beq_int]
   exact he
  ·have he:fieldsL st lv (Dsc.mk k f r wr x a n s o)=[bitFl 0 true,bitFl 1 true,numFl 12 12 f]:=by simp [fieldsL,headL,k0,k2]
   rw [he]
   exact fields_table st lv k f r wr x a n s o w (by simpa using k0) (by simpa using k2)
theorem small_fields (st lv:Int) (d:Dsc):SmallL (fieldsL st lv d)∧(fieldsL st lv d).length≤8:=by
 have h1:SmallL [numFl 4 4 d.o]:=by intro x hx;simp only [List.mem_cons,List.not_mem_nil,or_false] at hx;subst hx;first | exact small_bit _ _ (by decide) (by decide) | exact small_num _ _ _ (by decide) (by decide) (by decide) (by decide)
 have h2:SmallL (headL lv d):=by
  intro x hx
  simp only [headL,List.mem_cons,List.not_mem_nil,or_false] at hx
  rcases hx with rfl | rfl | rfl<;>first | exact small_bit _ _ (by decide) (by decide) | exact small_num _ _ _ (by decide) (by decide) (by decide) (by decide)
 have h3:SmallL (baseL d):=by
  intro x hx
  simp only [baseL,List.mem_cons,List.not_mem_nil,or_false] at hx
  rcases hx with rfl | rfl<;>first | exact small_bit _ _ (by decide) (by decide) | exact small_num _ _ _ (by decide) (by decide) (by decide) (by decide)
 have h4:SmallL (oneL d):=by
  intro x hx
  simp only [oneL,List.mem_cons,List.not_mem_nil,or_false] at hx
  rcases hx with rfl | rfl<;>first | exact small_bit _ _ (by decide) (by decide) | exact small_num _ _ _ (by decide) (by decide) (by decide) (by decide)
 have h5:SmallL (twoL d):=by
  intro x hx
  simp only [twoL,List.mem_cons,List.not_mem_nil,or_false] at hx
  rcases hx with rfl | rfl | rfl<;>first | exact small_bit _ _ (by decide) (by decide) | exact small_num _ _ _ (by decide) (by decide) (by decide) (by decide)
 have app:∀ {L M:List Fld},SmallL L→SmallL M→SmallL (L++M):=fun hL hM x hx=>(List.mem_append.1 hx).elim (hL x) (hM x)
 unfold fieldsL
 split
 ·exact ⟨h1,Nat.le_of_ble_eq_true rfl⟩
 ·split
  ·unfold attrL
   split
   ·exact ⟨app h2 (app h3 h4),Nat.le_of_ble_eq_true rfl⟩
   ·exact ⟨app h2 (app h3 h5),Nat.le_of_ble_eq_true rfl⟩
  ·exact ⟨h2,Nat.le_of_ble_eq_true rfl⟩
theorem eword_any (st lv:Int) (k f:Int) (r wr x a n:Bool) (s o:Int) (w:World) :
  Calls Tryz.prog 327 #[.agg #[.int .i64 st,.int .i64 lv,.int .i64 k,.int .i64 f,.bool r,.bool wr,.bool x,.bool a,.bool n,.int .i64 s,.int .i64 o]] w fun e w'=>e=.returned (.int .u64 (u (wordD st lv (Dsc.mk k f r wr x a n s o))))∧Below w.heap.size w w':=by
 have HF:=Lib.hid (fun W=>fields_any st lv k f r wr x a n s o W)
 have HS:=Lib.hid (small_fields st lv (Dsc.mk k f r wr x a n s o))
 have hw:wordD st lv (Dsc.mk k f r wr x a n s o)=(layR (nth (fieldsL st lv (Dsc.mk k f r wr x a n s o))) (fieldsL st lv (Dsc.mk k f r wr x a n s o)).length).2.1:=rfl
 rw [hw]
 clear hw
 generalize fieldsL st lv (Dsc.mk k f r wr x a n s o)=L at *
 have HJ:=Lib.hid (fun g c W (h:FldsAt W (some ⟨g,0,none⟩) L.length (nth L))=>join_any (some ⟨g,0,none⟩) L.length c (nth L) W (by have:=HS.out.2;omega) h)
 generalize layR (nth L) L.length=q at HJ ⊢
 obtain ⟨q0,q1,q2⟩:=q
 simp only at HJ ⊢
 go_enter Tryz.func327,Tryz.ntmps327
 go_wp2_with fail
 refine (HF.out _).mono ?_
 rintro e w1 ⟨g,c,rfl,hO,hb⟩
 have HB:=Lib.hid hb
 have HX:=Lib.hid (hO.flds HS.out.1)
 clear hb hO HF
 go_wp2_with fail
 refine (HJ.out _ _ _ HX.out).mono ?_
 rintro e w2 ⟨rfl,hb2⟩
 go_wp2
 go_ret
 exact ⟨rfl,bel_trans (bel_trans (bel_alloc (Below.refl _ _) _) HB.out) hb2⟩
end Go.Proofs.YtlgpdbgingjpbaaGreat
