/- The program's May,Flag,Both: contracts. -/
import Derived.Test.YtlgpdbgingjpbaaGreatVp
import Derived.Test.YtlgpdbgingjpbaaGreatDb
import Derived.Deep.CutBlock
import Derived.Deep.DeepCutAuto
set_option linter.all false
namespace Go.Proofs.YtlgpdbgingjpbaaGreat
open Go.ChangeShapes Go.WideShapes Go.ChangeAt Go.RowKit Go.Deep
def kindA (t:Atr) (acc:Int):Int:=if t.a=false then 3 else if mayA t acc=false then 4 else 0
theorem flag_kind (t:Atr) (acc st lv pg:Int):flagA t acc st lv pg=if kindA t acc=0 then flt0 else ⟨kindA t acc,st,lv,false,pg⟩:=by
 unfold flagA kindA
 cases t.a<;>cases mayA t acc<;>rfl
theorem attFault_any (t:Atr) (acc:Int) (w:World) :
  Calls Tryz.prog 299 #[attV t acc] w fun e w'=>e=.returned (.int .i64 (kindA t acc))∧Below w.heap.size w w':=by
 have HM:=Lib.hid (fun W=>attDo_any t acc W)
 unfold kindA
 generalize mayA t acc=m at *
 obtain ⟨r,wr,x,a,n,s⟩:=t
 unfold attV attC at *
 simp only at *
 have M0:=Lib.hid (BoxAt.new w #[.bool r,.bool wr,.bool x,.bool a,.bool n,.int .i64 s,.int .i64 acc] 317)
 have B0:=Lib.hid (bel_alloc (Below.refl w.heap.size w) (.cells #[.bool r,.bool wr,.bool x,.bool a,.bool n,.int .i64 s,.int .i64 acc] 317))
 cases a
 ·go_enter Tryz.func299,Tryz.ntmps299
  go_wp2
  go_ret
  exact ⟨rfl,B0.out⟩
 ·cases m
  all_goals
   go_enter Tryz.func299,Tryz.ntmps299
   go_wp2_with fail
   refine (HM.out _).mono ?_
   rintro e w1 ⟨rfl,hb1⟩
   have B1:=Lib.hid (bel_trans B0.out hb1)
   go_wp2
   go_ret
   exact ⟨rfl,B1.out⟩
theorem most_any (w:World) :
  Calls Tryz.prog 277 #[] w fun e w'=>e=.returned (.agg (atrC both1))∧Below w.heap.size w w':=by
 unfold atrC both1
 go_enter Tryz.func277,Tryz.ntmps277
 go_wp2
 go_returns
 exact ⟨rfl,by go_grown⟩
set_option maxHeartbeats 3200000 in
theorem narrow_any (X Y:Atr) (gb:Nat) (w:World) (hG:BoxAt w gb (atrC X) 315) :
  Calls Tryz.prog 278 #[.pointer (some ⟨gb,0,none⟩),atrV Y] w fun e w'=>e=.returned (.tuple #[])∧BoxAt w' gb (atrC (bothS X Y)) 315∧Kept gb w.heap.size w w':=by
 obtain ⟨r,wr,x,a,n,s⟩:=X
 obtain ⟨ar,aw,ax,aa,an,as'⟩:=Y
 unfold bothS
 unfold atrV atrC at *
 simp only at *
 have hl:=hG.lt
 have G0:=Lib.hid (hG.alloc (.cells #[.bool ar,.bool aw,.bool ax,.bool aa,.bool an,.int .i64 as'] 119))
 have Y0:=Lib.hid (BoxAt.new w #[.bool ar,.bool aw,.bool ax,.bool aa,.bool an,.int .i64 as'] 119)
 have B0:=Lib.hid (Kept.of (tb:=gb) (Below.alloc (Below.refl w.heap.size w) (Nat.le_refl _) (.cells #[.bool ar,.bool aw,.bool ax,.bool aa,.bool an,.int .i64 as'] 119)) (Nat.le_of_lt hl))
 clear hG
 go_enter Tryz.func278,Tryz.ntmps278
 go_upto_region 1 with fail
 obtain ⟨W0,hW0⟩:∃ W0,W0=w.alloc (.cells #[.bool ar,.bool aw,.bool ax,.bool aa,.bool an,.int .i64 as'] 119):=⟨_,rfl⟩
 obtain ⟨yb,hyb⟩:∃ yb,yb=w.heap.size:=⟨_,rfl⟩
 rw [← hW0] at G0 Y0 B0 ⊢
 rw [← hyb] at Y0 hl ⊢
 have hne:yb≠gb:=by omega
 clear hW0 hyb
 have c0:=G0.out.get 0 (.bool r) rfl
 have z0:=G0.out.free 0
 have y0:=Y0.out.get 0 (.bool ar) rfl
 have G1:=Lib.hid (G0.out.set 0 (.bool (r&&ar)) #[.bool (r&&ar),.bool wr,.bool x,.bool a,.bool n,.int .i64 s] rfl)
 have Y1:=Lib.hid (Y0.out.other ⟨gb,0,none⟩ (.bool (r&&ar)) hne)
 have B1:=Lib.hid (B0.out.set 0 (.bool (r&&ar)))
 clear G0 Y0 B0
 go_cut [10] (fun s10 wx=>s10=.bool r∧Hid (wx=W0.setCell ⟨gb,0,none⟩ (.bool (r&&ar))))
 case first=>
  cases r
  all_goals (go_wp2_with fail;go_meet;exact ⟨rfl,by show _=_;rfl⟩)
 case rest=>
 obtain ⟨rfl,hW⟩:=hcut
 have hW:=hW.out
 obtain ⟨W1,hW1⟩:∃ W1,W1=W0.setCell ⟨gb,0,none⟩ (.bool (r&&ar)):=⟨_,rfl⟩
 rw [← hW1] at G1 Y1 B1 hW
 obtain rfl:=hW.symm
 clear hW1 c0 z0 y0
 go_upto_region 2 with fail
 have c1:=G1.out.get 1 (.bool wr) rfl
 have z1:=G1.out.free 1
 have y1:=Y1.out.get 1 (.bool aw) rfl
 have G2:=Lib.hid (G1.out.set 1 (.bool (wr&&aw)) #[.bool (r&&ar),.bool (wr&&aw),.bool x,.bool a,.bool n,.int .i64 s] rfl)
 have Y2:=Lib.hid (Y1.out.other ⟨gb,1,none⟩ (.bool (wr&&aw)) hne)
 have B2:=Lib.hid (B1.out.set 1 (.bool (wr&&aw)))
 clear G1 Y1 B1
 go_cut [23] (fun s10 wx=>s10=.bool wr∧Hid (wx=W1.setCell ⟨gb,1,none⟩ (.bool (wr&&aw))))
 case first=>
  cases wr
  all_goals (go_wp2_with fail;go_meet;exact ⟨rfl,by show _=_;rfl⟩)
 case rest=>
 obtain ⟨rfl,hW⟩:=hcut
 have hW:=hW.out
 obtain ⟨W2,hW2⟩:∃ W2,W2=W1.setCell ⟨gb,1,none⟩ (.bool (wr&&aw)):=⟨_,rfl⟩
 rw [← hW2] at G2 Y2 B2 hW
 obtain rfl:=hW.symm
 clear hW2 c1 z1 y1
 go_upto_region 3 with fail
 have c2:=G2.out.get 2 (.bool x) rfl
 have z2:=G2.out.free 2
 have y2:=Y2.out.get 2 (.bool ax) rfl
 have G3:=Lib.hid (G2.out.set 2 (.bool (x&&ax)) #[.bool (r&&ar),.bool (wr&&aw),.bool (x&&ax),.bool a,.bool n,.int .i64 s] rfl)
 have Y3:=Lib.hid (Y2.out.other ⟨gb,2,none⟩ (.bool (x&&ax)) hne)
 have B3:=Lib.hid (B2.out.set 2 (.bool (x&&ax)))
 clear G2 Y2 B2
 go_cut [36] (fun s10 wx=>s10=.bool x∧Hid (wx=W2.setCell ⟨gb,2,none⟩ (.bool (x&&ax))))
 case first=>
  cases x
  all_goals (go_wp2_with fail;go_meet;exact ⟨rfl,by show _=_;rfl⟩)
 case rest=>
 obtain ⟨rfl,hW⟩:=hcut
 have hW:=hW.out
 obtain ⟨W3,hW3⟩:∃ W3,W3=W2.setCell ⟨gb,2,none⟩ (.bool (x&&ax)):=⟨_,rfl⟩
 rw [← hW3] at G3 Y3 B3 hW
 obtain rfl:=hW.symm
 clear hW3 c2 z2 y2
 go_upto_region 4 with fail
 have c3:=G3.out.get 3 (.bool a) rfl
 have z3:=G3.out.free 3
 have y3:=Y3.out.get 3 (.bool aa) rfl
 have G4:=Lib.hid (G3.out.set 3 (.bool (a&&aa)) #[.bool (r&&ar),.bool (wr&&aw),.bool (x&&ax),.bool (a&&aa),.bool n,.int .i64 s] rfl)
 have Y4:=Lib.hid (Y3.out.other ⟨gb,3,none⟩ (.bool (a&&aa)) hne)
 have B4:=Lib.hid (B3.out.set 3 (.bool (a&&aa)))
 clear G3 Y3 B3
 go_cut [49] (fun s10 wx=>s10=.bool a∧Hid (wx=W3.setCell ⟨gb,3,none⟩ (.bool (a&&aa))))
 case first=>
  cases a
  all_goals (go_wp2_with fail;go_meet;exact ⟨rfl,by show _=_;rfl⟩)
 case rest=>
 obtain ⟨rfl,hW⟩:=hcut
 have hW:=hW.out
 obtain ⟨W4,hW4⟩:∃ W4,W4=W3.setCell ⟨gb,3,none⟩ (.bool (a&&aa)):=⟨_,rfl⟩
 rw [← hW4] at G4 Y4 B4 hW
 obtain rfl:=hW.symm
 clear hW4 c3 z3 y3
 go_upto_region 5 with fail
 have c4:=G4.out.get 4 (.bool n) rfl
 have z4:=G4.out.free 4
 have y4:=Y4.out.get 4 (.bool an) rfl
 have G5:=Lib.hid (G4.out.set 4 (.bool (n||an)) #[.bool (r&&ar),.bool (wr&&aw),.bool (x&&ax),.bool (a&&aa),.bool (n||an),.int .i64 s] rfl)
 have Y5:=Lib.hid (Y4.out.other ⟨gb,4,none⟩ (.bool (n||an)) hne)
 have B5:=Lib.hid (B4.out.set 4 (.bool (n||an)))
 clear G4 Y4 B4
 cases n
 all_goals
  go_wp2
  go_end0
  exact ⟨rfl,G5.out,B5.out⟩
set_option maxRecDepth 100000 in
set_option maxHeartbeats 3200000 in
theorem flagP_any (t:Atr) (acc st lv pg:Int) (w:World) :
  Calls Tryz.prog 285 #[atrV t,.int .i64 acc,.int .i64 st,.int .i64 lv,.int .i64 pg] w fun e w'=>e=.returned (.tuple #[fltV (if numB acc 2=true then flagA t acc st lv pg else flt0),.int .i64 (if numB acc 2=true then 0 else 1)])∧Below w.heap.size w w':=by
 have HA:=Lib.hid (fun W=>attemptOf_any t acc W)
 have HB:=Lib.hid (fun W=>attMay_any t acc W)
 have HD:=Lib.hid (fun W=>attFault_any t acc W)
 generalize hkk:kindA t acc=kk at *
 rw [flag_kind,hkk]
 clear hkk
 generalize numB acc 2=b at *
 obtain ⟨q,hq⟩:∃ q,(if b=true then (if kk=0 then flt0 else ⟨kk,st,lv,false,pg⟩) else flt0)=q:=⟨_,rfl⟩
 rw [hq]
 have HQ:=Lib.hid hq
 clear hq
 obtain ⟨r,wr,x,a,n,s⟩:=t
 unfold attV attC at *
 unfold atrV atrC at *
 simp only at *
 have A0:=Lib.hid ((BoxAt.new w #[.bool r,.bool wr,.bool x,.bool a,.bool n,.int .i64 s] 119).alloc (.cells z5 43))
 have R0:=Lib.hid (BoxAt.newAt (w.alloc (.cells #[.bool r,.bool wr,.bool x,.bool a,.bool n,.int .i64 s] 119)) z5 43 (w.heap.size+1) (by simp))
 have B0:=Lib.hid (bel_alloc (bel_alloc (Below.refl w.heap.size w) (.cells #[.bool r,.bool wr,.bool x,.bool a,.bool n,.int .i64 s] 119)) (.cells z5 43))
 go_enter Tryz.func285,Tryz.ntmps285
 go_upto_region 1 with fail
 obtain ⟨W0,hW0⟩:∃ W0,W0=(w.alloc (.cells #[.bool r,.bool wr,.bool x,.bool a,.bool n,.int .i64 s] 119)).alloc (.cells z5 43):=⟨_,rfl⟩
 rw [← hW0] at A0 R0 B0 ⊢
 clear hW0
 have Ac0:=A0.out.get 0 (.bool r) rfl
 have Ac1:=A0.out.get 1 (.bool wr) rfl
 have Ac2:=A0.out.get 2 (.bool x) rfl
 have Ac3:=A0.out.get 3 (.bool a) rfl
 have Ac4:=A0.out.get 4 (.bool n) rfl
 have Ac5:=A0.out.get 5 (.int .i64 s) rfl
 go_wp2_with fail
 refine (HA.out _).mono ?_
 rintro e w11 ⟨rfl,hb11⟩
 have A12:=Lib.hid (A0.out.below hb11)
 have R12:=Lib.hid (R0.out.below hb11)
 have B12:=Lib.hid (bel_trans B0.out hb11)
 clear Ac0 Ac1 Ac2 Ac3 Ac4 Ac5
 clear A0 R0 B0 hb11
 go_upto_region 2 with fail
 have A13:=Lib.hid ((A12.out.alloc (.cells #[.bool r,.bool wr,.bool x,.bool a,.bool n,.int .i64 s,.int .i64 acc] 317)))
 have R13:=Lib.hid ((R12.out.alloc (.cells #[.bool r,.bool wr,.bool x,.bool a,.bool n,.int .i64 s,.int .i64 acc] 317)))
 have T13:=Lib.hid ((BoxAt.newAt (w11) #[.bool r,.bool wr,.bool x,.bool a,.bool n,.int .i64 s,.int .i64 acc] 317 (w11.heap.size) (by first | rfl | (simp;done) | (simp;omega))))
 have B13:=Lib.hid ((bel_alloc B12.out (.cells #[.bool r,.bool wr,.bool x,.bool a,.bool n,.int .i64 s,.int .i64 acc] 317)))
 clear A12 R12 B12
 obtain ⟨W2,hW2⟩:∃ W2,W2=w11.alloc (.cells #[.bool r,.bool wr,.bool x,.bool a,.bool n,.int .i64 s,.int .i64 acc] 317):=⟨_,rfl⟩
 obtain ⟨bT,hbT⟩:∃ bT,bT=w11.heap.size:=⟨_,rfl⟩
 rw [← hW2] at A13 R13 T13 B13 ⊢
 rw [← hbT] at T13 ⊢
 clear hW2 hbT
 have Tc0:=T13.out.get 0 (.bool r) rfl
 have Tc1:=T13.out.get 1 (.bool wr) rfl
 have Tc2:=T13.out.get 2 (.bool x) rfl
 have Tc3:=T13.out.get 3 (.bool a) rfl
 have Tc4:=T13.out.get 4 (.bool n) rfl
 have Tc5:=T13.out.get 5 (.int .i64 s) rfl
 have Tc6:=T13.out.get 6 (.int .i64 acc) rfl
 go_wp2_with fail
 refine (HB.out _).mono ?_
 rintro e w14 ⟨rfl,hb14⟩
 have A15:=Lib.hid (A13.out.below hb14)
 have R15:=Lib.hid (R13.out.below hb14)
 have T15:=Lib.hid (T13.out.below hb14)
 have B15:=Lib.hid (bel_trans B13.out hb14)
 clear Tc0 Tc1 Tc2 Tc3 Tc4 Tc5 Tc6
 clear A13 R13 T13 B13 hb14
 cases b
 ·have Rc0:=R15.out.get 0 (.int .i64 0) rfl
  have Rc1:=R15.out.get 1 (.int .i64 0) rfl
  have Rc2:=R15.out.get 2 (.int .i64 0) rfl
  have Rc3:=R15.out.get 3 (.bool false) rfl
  have Rc4:=R15.out.get 4 (.int .i64 0) rfl
  have Rz0:=R15.out.free 0
  have Rz1:=R15.out.free 1
  have Rz2:=R15.out.free 2
  have Rz3:=R15.out.free 3
  have Rz4:=R15.out.free 4
  go_wp2
  refine bodyPost_ret (v:=.tuple #[.agg #[.int .i64 0,.int .i64 0,.int .i64 0,.bool false,.int .i64 0],.int .i64 1]) (by simp [results,Tryz.results285,go_sem,Rc0,Rc1,Rc2,Rc3,Rc4]) rfl ⟨by have h:=HQ.out;(first | rw [if_neg (by decide)] at h | rw [if_neg not_false] at h);subst h;rfl,?_⟩
  repeat' (first | with_reducible exact B15.out | with_reducible refine Below.setCell ?_ (by first | (simp;done) | (simp;omega)) _)
 ·have Tc0:=T15.out.get 0 (.bool r) rfl
  have Tc1:=T15.out.get 1 (.bool wr) rfl
  have Tc2:=T15.out.get 2 (.bool x) rfl
  have Tc3:=T15.out.get 3 (.bool a) rfl
  have Tc4:=T15.out.get 4 (.bool n) rfl
  have Tc5:=T15.out.get 5 (.int .i64 s) rfl
  have Tc6:=T15.out.get 6 (.int .i64 acc) rfl
  go_wp2_with fail
  refine (HD.out _).mono ?_
  rintro e w16 ⟨rfl,hb16⟩
  have A17:=Lib.hid (A15.out.below hb16)
  have R17:=Lib.hid (R15.out.below hb16)
  have T17:=Lib.hid (T15.out.below hb16)
  have B17:=Lib.hid (bel_trans B15.out hb16)
  clear Tc0 Tc1 Tc2 Tc3 Tc4 Tc5 Tc6
  clear A15 R15 T15 B15 hb16
  by_cases hk:kk=0
  ·have dk:decide (kk=0)=true:=decide_eq_true hk
   have Rc0:=R17.out.get 0 (.int .i64 0) rfl
   have Rc1:=R17.out.get 1 (.int .i64 0) rfl
   have Rc2:=R17.out.get 2 (.int .i64 0) rfl
   have Rc3:=R17.out.get 3 (.bool false) rfl
   have Rc4:=R17.out.get 4 (.int .i64 0) rfl
   have Rz0:=R17.out.free 0
   have Rz1:=R17.out.free 1
   have Rz2:=R17.out.free 2
   have Rz3:=R17.out.free 3
   have Rz4:=R17.out.free 4
   go_wp2
   refine bodyPost_ret (v:=.tuple #[.agg #[.int .i64 0,.int .i64 0,.int .i64 0,.bool false,.int .i64 0],.int .i64 0]) (by simp [results,Tryz.results285,go_sem,Rc0,Rc1,Rc2,Rc3,Rc4]) rfl ⟨by have h:=HQ.out;(first | rw [if_pos rfl] at h | rw [if_pos trivial] at h);rw [if_pos hk] at h;subst h;rfl,?_⟩
   repeat' (first | with_reducible exact B17.out | with_reducible refine Below.setCell ?_ (by first | (simp;done) | (simp;omega)) _)
  ·have dk:decide (kk=0)=false:=decide_eq_false hk
   have Rc0:=R17.out.get 0 (.int .i64 0) rfl
   have Rc1:=R17.out.get 1 (.int .i64 0) rfl
   have Rc2:=R17.out.get 2 (.int .i64 0) rfl
   have Rc3:=R17.out.get 3 (.bool false) rfl
   have Rc4:=R17.out.get 4 (.int .i64 0) rfl
   have Rz0:=R17.out.free 0
   have Rz1:=R17.out.free 1
   have Rz2:=R17.out.free 2
   have Rz3:=R17.out.free 3
   have Rz4:=R17.out.free 4
   go_wp2
   refine bodyPost_ret (v:=.tuple #[.agg #[.int .i64 kk,.int .i64 st,.int .i64 lv,.bool false,.int .i64 pg],.int .i64 0]) (by simp [results,Tryz.results285,go_sem,Rc0,Rc1,Rc2,Rc3,Rc4]) rfl ⟨by have h:=HQ.out;(first | rw [if_pos rfl] at h | rw [if_pos trivial] at h);rw [if_neg hk] at h;subst h;rfl,?_⟩
   repeat' (first | with_reducible exact B17.out | with_reducible refine Below.setCell ?_ (by first | (simp;done) | (simp;omega)) _)
set_option maxRecDepth 100000 in
set_option maxHeartbeats 3200000 in
theorem bothP_any (f:Option Addr) (n c:Nat) (L:List Atr) (w:World) (hL:RowsAt KA w f L) (hn:n=L.length) (hl:L.length≤100000) :
  Calls Tryz.prog 258 #[.slice f n c] w fun e w'=>e=.returned (atrV (bothL L))∧Below w.heap.size w w':=by
 have HM:=Lib.hid (fun W=>most_any W)
 have HW:=Lib.hid (fun X Y gb W h=>narrow_any X Y gb W h)
 unfold atrV at HW
 have R0:=Lib.hid (BoxAt.new w #[.bool false,.bool false,.bool false,.bool false,.bool false,.int .i64 0] 119)
 have B0:=Lib.hid (bel_alloc (Below.refl w.heap.size w) (.cells #[.bool false,.bool false,.bool false,.bool false,.bool false,.int .i64 0] 119))
 have HL:=Lib.hid hL
 have HN:=Lib.hid hn
 have hn1:n≤100000:=by omega
 clear hL hn hl
 go_enter Tryz.func258,Tryz.ntmps258
 go_upto_region 1 with fail
 obtain ⟨W0,hW0⟩:∃ W0,W0=w.alloc (.cells #[.bool false,.bool false,.bool false,.bool false,.bool false,.int .i64 0] 119):=⟨_,rfl⟩
 rw [← hW0] at R0 B0 ⊢
 clear hW0
 have hlR:=R0.out.lt
 go_wp2_with fail
 refine (HM.out _).mono ?_
 rintro e w11 ⟨rfl,hb11⟩
 have R12:=Lib.hid (R0.out.below hb11)
 have B12:=Lib.hid (bel_trans B0.out hb11)
 clear R0 B0 hb11
 have hlR2:=R12.out.lt
 unfold atrC both1
 go_upto_region 2 with fail
 have R13:=Lib.hid ((R12.out.alloc (.cells #[.bool true,.bool true,.bool true,.bool true,.bool false,.int .i64 0] 315)))
 have G13:=Lib.hid ((BoxAt.newAt (w11) #[.bool true,.bool true,.bool true,.bool true,.bool false,.int .i64 0] 315 (w11.heap.size) (by first | rfl | (simp;done) | (simp;omega))))
 have B13:=Lib.hid ((bel_alloc B12.out (.cells #[.bool true,.bool true,.bool true,.bool true,.bool false,.int .i64 0] 315)))
 clear R12 B12
 obtain ⟨W2,hW2⟩:∃ W2,W2=w11.alloc (.cells #[.bool true,.bool true,.bool true,.bool true,.bool false,.int .i64 0] 315):=⟨_,rfl⟩
 obtain ⟨bG,hbG⟩:∃ bG,bG=w11.heap.size:=⟨_,rfl⟩
 have hRG:w.heap.size < bG:=by rw [hbG];exact hlR2
 rw [← hW2] at R13 G13 B13 ⊢
 rw [← hbG] at G13 ⊢
 clear hW2 hbG
 have G13:Hid (BoxAt W2 bG (atrC (bothL (L.take 0))) 315):=G13
 go_wp2
 go_loopw [9] (fun i wr=>∃ k:Nat,k≤n∧i=.int .i64 k∧Hid (BoxAt wr w.heap.size #[.bool false,.bool false,.bool false,.bool false,.bool false,.int .i64 0] 119)∧Hid (BoxAt wr bG (atrC (bothL (L.take k))) 315)∧Hid (Below w.heap.size w wr)) (fun i _=>n - (intOf i).toNat)
 case atStart=>exact ⟨0,Nat.zero_le _,rfl,R13,G13,B13⟩
 case round=>
  obtain ⟨k,hk,rfl,R1,G1,B1⟩:=hrel
  clear R13 G13 B13
  by_cases hlt:k < n
  ·have hq:∃ t,L[k]?=some t:=⟨_,List.getElem?_eq_getElem (by rw [← HN.out];exact hlt)⟩
   obtain ⟨t,ht⟩:=hq
   obtain ⟨b,o,rfl,hr⟩:=HL.out k t ht
   have hr:=hr.below B1.out
   have HNX:=Lib.hid (both_take L k t ht)
   generalize bothL (L.take k)=x0 at *
   obtain ⟨ar,aw,ax,aa,an,as'⟩:=t
   have y0:=hr.get0 (.bool ar) (by decide) rfl
   have y1:=hr.get 1 (.bool aw) (by decide) rfl
   have y2:=hr.get 2 (.bool ax) (by decide) rfl
   have y3:=hr.get 3 (.bool aa) (by decide) rfl
   have y4:=hr.get 4 (.bool an) (by decide) rfl
   have y5:=hr.get 5 (.int .i64 as') (by decide) rfl
   simp only [show KA.N=6 from rfl] at y0 y1 y2 y3 y4 y5
   clear hr ht
   have i1:(0:Int)≤(k:Int):=by omega
   have i2:(k:Int) < (n:Int):=by omega
   have hgl:bG < wr.heap.size:=G1.out.lt
   go_upto_region 5 with fail
   have R2:=Lib.hid (R1.out.alloc (.cells #[.bool ar,.bool aw,.bool ax,.bool aa,.bool an,.int .i64 as'] 119))
   have G2:=Lib.hid (G1.out.alloc (.cells #[.bool ar,.bool aw,.bool ax,.bool aa,.bool an,.int .i64 as'] 119))
   have Y2:=Lib.hid (BoxAt.new wr #[.bool ar,.bool aw,.bool ax,.bool aa,.bool an,.int .i64 as'] 119)
   have B2:=Lib.hid (bel_alloc B1.out (.cells #[.bool ar,.bool aw,.bool ax,.bool aa,.bool an,.int .i64 as'] 119))
   obtain ⟨W3,hW3⟩:∃ W3,W3=wr.alloc (.cells #[.bool ar,.bool aw,.bool ax,.bool aa,.bool an,.int .i64 as'] 119):=⟨_,rfl⟩
   obtain ⟨yb,hyb⟩:∃ yb,yb=wr.heap.size:=⟨_,rfl⟩
   rw [← hW3] at R2 G2 Y2 B2 ⊢
   rw [← hyb] at Y2 hgl ⊢
   clear hW3 hyb R1 G1 B1 y0 y1 y2 y3 y4 y5
   have y0:=Y2.out.get 0 (.bool ar) rfl
   have y1:=Y2.out.get 1 (.bool aw) rfl
   have y2:=Y2.out.get 2 (.bool ax) rfl
   have y3:=Y2.out.get 3 (.bool aa) rfl
   have y4:=Y2.out.get 4 (.bool an) rfl
   have y5:=Y2.out.get 5 (.int .i64 as') rfl
   go_wp2_with fail
   refine (HW.out x0 ⟨ar,aw,ax,aa,an,as'⟩ bG W3 G2.out).mono ?_
   rintro e w3 ⟨rfl,hG3,hk3⟩
   have hlR3:=R2.out.lt
   have R3:=Lib.hid (hk3.box R2.out hlR3 (by omega))
   have B3:=Lib.hid (hk3.under B2.out (by omega))
   have G3:=Lib.hid hG3
   clear hG3 hk3 R2 B2 G2 Y2 y0 y1 y2 y3 y4 y5
   go_wp2
   go_roundw
   case rel=>exact ⟨k+1,by omega,by go_num,R3,by rw [HNX.out];exact G3,B3⟩
   case measure=>simp [intOf];omega
  ·have hk2:k=n:=by omega
   subst hk2
   rw [HN.out,List.take_length] at G1
   obtain ⟨x0,hx0⟩:∃ x0,bothL L=x0:=⟨_,rfl⟩
   rw [hx0] at G1
   have HX0:=Lib.hid hx0
   clear hx0
   obtain ⟨xr,xw,xx,xa,xn,xs⟩:=x0
   have G1:Hid (BoxAt wr bG #[.bool xr,.bool xw,.bool xx,.bool xa,.bool xn,.int .i64 xs] 315):=G1
   have Gc0:=G1.out.get 0 (.bool xr) rfl
   have Rc0:=R1.out.get 0 (.bool false) rfl
   have Rz0:=R1.out.free 0
   have Gc1:=G1.out.get 1 (.bool xw) rfl
   have Rc1:=R1.out.get 1 (.bool false) rfl
   have Rz1:=R1.out.free 1
   have Gc2:=G1.out.get 2 (.bool xx) rfl
   have Rc2:=R1.out.get 2 (.bool false) rfl
   have Rz2:=R1.out.free 2
   have Gc3:=G1.out.get 3 (.bool xa) rfl
   have Rc3:=R1.out.get 3 (.bool false) rfl
   have Rz3:=R1.out.free 3
   have Gc4:=G1.out.get 4 (.bool xn) rfl
   have Rc4:=R1.out.get 4 (.bool false) rfl
   have Rz4:=R1.out.free 4
   have Gc5:=G1.out.get 5 (.int .i64 xs) rfl
   have Rc5:=R1.out.get 5 (.int .i64 0) rfl
   have Rz5:=R1.out.free 5
   go_wp2
   refine bodyPost_ret (v:=.agg #[.bool xr,.bool xw,.bool xx,.bool xa,.bool xn,.int .i64 xs]) (by simp [results,Tryz.results258,go_sem,Rc0,Rc1,Rc2,Rc3,Rc4,Rc5]) rfl ⟨by rw [HX0.out];rfl,?_⟩
   repeat' (first | with_reducible exact B1.out | with_reducible refine Below.setCell ?_ (by first | (simp;done) | (simp;omega)) _)
theorem mayC:MayC:=fun t acc w=>mayP_any t acc w
theorem flagC:FlagC:=fun t acc st lv pg w=>flagP_any t acc st lv pg w
theorem bothC:BothC:=fun f n c L w h1 h2 h3=>bothP_any f n c L w h1 h2 h3
end Go.Proofs.YtlgpdbgingjpbaaGreat
