/- Reading words (package desc): contracts. -/
import Derived.Test.YtlgpdbgingjpbaaGreatRe
import Derived.Deep.CutBlock
set_option linter.all false
namespace Go.Proofs.YtlgpdbgingjpbaaGreat
open Go.ChangeShapes Go.WideShapes Go.ChangeAt Go.RowKit Go.Deep
set_option maxHeartbeats 1600000 in
theorem sattr_one (lv:Int) (v:BitVec 64) (w:World) :
  Calls Tryz.prog 334 #[.agg #[.int .i64 1,.int .i64 lv],.int .u64 (u v)] w fun e w'=>e=.returned (.agg #[.bool true,.bool (!flagW v 7),.bool (!flagW v 54),.bool (flagW v 10),.bool (flagW v 11),.int .i64 0])∧Below w.heap.size w w':=by
 have H54:=Lib.hid (fun W=>flag_any v 54 W (by decide) (by decide))
 have H10:=Lib.hid (fun W=>flag_any v 10 W (by decide) (by decide))
 have H7:=Lib.hid (fun W=>flag_any v 7 W (by decide) (by decide))
 have H11:=Lib.hid (fun W=>flag_any v 11 W (by decide) (by decide))
 generalize flagW v 54=b54 at *
 generalize flagW v 10=b10 at *
 generalize flagW v 7=b7 at *
 generalize flagW v 11=b11 at *
 have X0:=Lib.hid ((BoxAt.new w #[.int .i64 1,.int .i64 lv] 376).alloc (.cells #[.bool false,.bool false,.bool false,.bool false,.bool false,.int .i64 0] 119))
 have R0:=Lib.hid (BoxAt.new (w.alloc (.cells #[.int .i64 1,.int .i64 lv] 376)) #[.bool false,.bool false,.bool false,.bool false,.bool false,.int .i64 0] 119)
 rw [show (w.alloc (.cells #[.int .i64 1,.int .i64 lv] 376)).heap.size=w.heap.size+1 from by simp] at R0
 have B1:=Lib.hid (bel_alloc (bel_alloc (Below.refl w.heap.size w) (.cells #[.int .i64 1,.int .i64 lv] 376)) (.cells #[.bool false,.bool false,.bool false,.bool false,.bool false,.int .i64 0] 119))
 go_enter Tryz.func334,Tryz.ntmps334
 go_wp2_with fail
 refine (H54.out _).mono ?_
 rintro e w2 ⟨rfl,hb2⟩
 have X2:=Lib.hid (X0.out.below hb2)
 have R2:=Lib.hid (R0.out.below hb2)
 have B2:=Lib.hid (bel_trans B1.out hb2)
 clear X0 R0 B1 hb2
 go_wp2_with fail
 refine (H10.out _).mono ?_
 rintro e w3 ⟨rfl,hb3⟩
 have X3:=Lib.hid (X2.out.below hb3)
 have R3:=Lib.hid (R2.out.below hb3)
 have B3:=Lib.hid (bel_trans B2.out hb3)
 clear X2 R2 B2 hb3
 have hlt:=R3.out.lt
 have Xa:=Lib.hid (X3.out.alloc (.cells #[.bool false,.bool false,.bool (!b54),.bool b10,.bool false,.int .i64 0] 119))
 clear X3
 have Ra:=Lib.hid (R3.out.alloc (.cells #[.bool false,.bool false,.bool (!b54),.bool b10,.bool false,.int .i64 0] 119))
 clear R3
 have Aa:=Lib.hid (BoxAt.new w3 #[.bool false,.bool false,.bool (!b54),.bool b10,.bool false,.int .i64 0] 119)
 have Ba:=Lib.hid (bel_alloc B3.out (.cells #[.bool false,.bool false,.bool (!b54),.bool b10,.bool false,.int .i64 0] 119))
 clear B3
 have Xc0:=Xa.out.get 0 (.int .i64 1) rfl
 go_wp2_with fail
 clear Xc0
 obtain ⟨W3,hW3⟩:∃ W3,W3=w3.alloc (.cells #[.bool false,.bool false,.bool (!b54),.bool b10,.bool false,.int .i64 0] 119):=⟨_,rfl⟩
 rw [← hW3] at Xa Ra Aa Ba ⊢
 obtain ⟨G,hG⟩:∃ G,G=w3.heap.size:=⟨_,rfl⟩
 rw [← hG] at Aa hlt ⊢
 clear hW3 hG
 have g0:w.heap.size≤G:=by omega
 have g1:G≠w.heap.size+1:=by omega
 have g2:w.heap.size+1≠G:=by omega
 clear hlt
 refine (H7.out _).mono ?_
 rintro e w4 ⟨rfl,hb4⟩
 have X4:=Lib.hid (Xa.out.below hb4)
 have R4:=Lib.hid (Ra.out.below hb4)
 have A4:=Lib.hid (Aa.out.below hb4)
 have B4:=Lib.hid (bel_trans Ba.out hb4)
 clear Xa Ra Aa Ba hb4
 go_wp2_with fail
 refine (H11.out _).mono ?_
 rintro e w5 ⟨rfl,hb5⟩
 have X5:=Lib.hid (X4.out.below hb5)
 have R5:=Lib.hid (R4.out.below hb5)
 have A5:=Lib.hid (A4.out.below hb5)
 have B5:=Lib.hid (bel_trans B4.out hb5)
 clear X4 R4 A4 B4 hb5
 have Ac0:=A5.out.get 0 (.bool false) rfl
 have Ac1:=A5.out.get 1 (.bool false) rfl
 have Ac2:=A5.out.get 2 (.bool (!b54)) rfl
 have Ac3:=A5.out.get 3 (.bool b10) rfl
 have Ac4:=A5.out.get 4 (.bool false) rfl
 have Ac5:=A5.out.get 5 (.int .i64 0) rfl
 have Az0:=A5.out.free 0
 have Az1:=A5.out.free 1
 have Az4:=A5.out.free 4
 have Rc0:=R5.out.get 0 (.bool false) rfl
 have Rc1:=R5.out.get 1 (.bool false) rfl
 have Rc2:=R5.out.get 2 (.bool false) rfl
 have Rc3:=R5.out.get 3 (.bool false) rfl
 have Rc4:=R5.out.get 4 (.bool false) rfl
 have Rc5:=R5.out.get 5 (.int .i64 0) rfl
 have Rz0:=R5.out.free 0
 have Rz1:=R5.out.free 1
 have Rz2:=R5.out.free 2
 have Rz3:=R5.out.free 3
 have Rz4:=R5.out.free 4
 have Rz5:=R5.out.free 5
 go_wp2
 refine bodyPost_ret (v:=.agg #[.bool true,.bool (!b7),.bool (!b54),.bool b10,.bool b11,.int .i64 0]) (by simp [results,Tryz.results334,go_sem,Rc0,Rc1,Rc2,Rc3,Rc4,Rc5]) rfl ⟨rfl,?_⟩
 repeat' (first | with_reducible exact B5.out | with_reducible refine Below.setCell ?_ (by first | exact g0 | (simp;done)) _)
set_option maxHeartbeats 1600000 in
theorem sattr_two (st lv:Int) (v:BitVec 64) (w:World) (t1:(st==1)=false) :
  Calls Tryz.prog 334 #[.agg #[.int .i64 st,.int .i64 lv],.int .u64 (u v)] w fun e w'=>e=.returned (.agg #[.bool (flagW v 6),.bool (flagW v 7),.bool (!flagW v 54),.bool (flagW v 10),.bool false,.int .i64 (getN v 55 4)])∧Below w.heap.size w w':=by
 have H54:=Lib.hid (fun W=>flag_any v 54 W (by decide) (by decide))
 have H10:=Lib.hid (fun W=>flag_any v 10 W (by decide) (by decide))
 have H6:=Lib.hid (fun W=>flag_any v 6 W (by decide) (by decide))
 have H7:=Lib.hid (fun W=>flag_any v 7 W (by decide) (by decide))
 have HN:=Lib.hid (fun W=>number_any v 55 4 W (by decide) (by decide))
 generalize getN v 55 4=sf at *
 generalize flagW v 54=b54 at *
 generalize flagW v 10=b10 at *
 generalize flagW v 6=b6 at *
 generalize flagW v 7=b7 at *
 have X0:=Lib.hid ((BoxAt.new w #[.int .i64 st,.int .i64 lv] 376).alloc (.cells #[.bool false,.bool false,.bool false,.bool false,.bool false,.int .i64 0] 119))
 have R0:=Lib.hid (BoxAt.new (w.alloc (.cells #[.int .i64 st,.int .i64 lv] 376)) #[.bool false,.bool false,.bool false,.bool false,.bool false,.int .i64 0] 119)
 rw [show (w.alloc (.cells #[.int .i64 st,.int .i64 lv] 376)).heap.size=w.heap.size+1 from by simp] at R0
 have B1:=Lib.hid (bel_alloc (bel_alloc (Below.refl w.heap.size w) (.cells #[.int .i64 st,.int .i64 lv] 376)) (.cells #[.bool false,.bool false,.bool false,.bool false,.bool false,.int .i64 0] 119))
 go_enter Tryz.func334,Tryz.ntmps334
 go_wp2_with fail
 refine (H54.out _).mono ?_
 rintro e w2 ⟨rfl,hb2⟩
 have X2:=Lib.hid (X0.out.below hb2)
 have R2:=Lib.hid (R0.out.below hb2)
 have B2:=Lib.hid (bel_trans B1.out hb2)
 clear X0 R0 B1 hb2
 go_wp2_with fail
 refine (H10.out _).mono ?_
 rintro e w3 ⟨rfl,hb3⟩
 have X3:=Lib.hid (X2.out.below hb3)
 have R3:=Lib.hid (R2.out.below hb3)
 have B3:=Lib.hid (bel_trans B2.out hb3)
 clear X2 R2 B2 hb3
 have hlt:=R3.out.lt
 have Xa:=Lib.hid (X3.out.alloc (.cells #[.bool false,.bool false,.bool (!b54),.bool b10,.bool false,.int .i64 0] 119))
 clear X3
 have Ra:=Lib.hid (R3.out.alloc (.cells #[.bool false,.bool false,.bool (!b54),.bool b10,.bool false,.int .i64 0] 119))
 clear R3
 have Aa:=Lib.hid (BoxAt.new w3 #[.bool false,.bool false,.bool (!b54),.bool b10,.bool false,.int .i64 0] 119)
 have Ba:=Lib.hid (bel_alloc B3.out (.cells #[.bool false,.bool false,.bool (!b54),.bool b10,.bool false,.int .i64 0] 119))
 clear B3
 have Xc0:=Xa.out.get 0 (.int .i64 st) rfl
 go_wp2_with fail
 clear Xc0
 obtain ⟨W3,hW3⟩:∃ W3,W3=w3.alloc (.cells #[.bool false,.bool false,.bool (!b54),.bool b10,.bool false,.int .i64 0] 119):=⟨_,rfl⟩
 rw [← hW3] at Xa Ra Aa Ba ⊢
 obtain ⟨G,hG⟩:∃ G,G=w3.heap.size:=⟨_,rfl⟩
 rw [← hG] at Aa hlt ⊢
 clear hW3 hG
 have g0:w.heap.size≤G:=by omega
 have g1:G≠w.heap.size+1:=by omega
 have g2:w.heap.size+1≠G:=by omega
 clear hlt
 refine (H6.out _).mono ?_
 rintro e w4 ⟨rfl,hb4⟩
 have X4:=Lib.hid (Xa.out.below hb4)
 have R4:=Lib.hid (Ra.out.below hb4)
 have A4:=Lib.hid (Aa.out.below hb4)
 have B4:=Lib.hid (bel_trans Ba.out hb4)
 clear Xa Ra Aa Ba hb4
 go_wp2_with fail
 refine (H7.out _).mono ?_
 rintro e w5 ⟨rfl,hb5⟩
 have X5:=Lib.hid (X4.out.below hb5)
 have R5:=Lib.hid (R4.out.below hb5)
 have A5:=Lib.hid (A4.out.below hb5)
 have B5:=Lib.hid (bel_trans B4.out hb5)
 clear X4 R4 A4 B4 hb5
 go_wp2_with fail
 refine (HN.out _).mono ?_
 rintro e w6 ⟨rfl,hb6⟩
 have X6:=Lib.hid (X5.out.below hb6)
 have R6:=Lib.hid (R5.out.below hb6)
 have A6:=Lib.hid (A5.out.below hb6)
 have B6:=Lib.hid (bel_trans B5.out hb6)
 clear X5 R5 A5 B5 hb6
 have Ac0:=A6.out.get 0 (.bool false) rfl
 have Ac1:=A6.out.get 1 (.bool false) rfl
 have Ac2:=A6.out.get 2 (.bool (!b54)) rfl
 have Ac3:=A6.out.get 3 (.bool b10) rfl
 have Ac4:=A6.out.get 4 (.bool false) rfl
 have Ac5:=A6.out.get 5 (.int .i64 0) rfl
 have Az0:=A6.out.free 0
 have Az1:=A6.out.free 1
 have Az5:=A6.out.free 5
 have Rc0:=R6.out.get 0 (.bool false) rfl
 have Rc1:=R6.out.get 1 (.bool false) rfl
 have Rc2:=R6.out.get 2 (.bool false) rfl
 have Rc3:=R6.out.get 3 (.bool false) rfl
 have Rc4:=R6.out.get 4 (.bool false) rfl
 have Rc5:=R6.out.get 5 (.int .i64 0) rfl
 have Rz0:=R6.out.free 0
 have Rz1:=R6.out.free 1
 have Rz2:=R6.out.free 2
 have Rz3:=R6.out.free 3
 have Rz4:=R6.out.free 4
 have Rz5:=R6.out.free 5
 go_wp2
 refine bodyPost_ret (v:=.agg #[.bool b6,.bool b7,.bool (!b54),.bool b10,.bool false,.int .i64 sf]) (by simp [results,Tryz.results334,go_sem,Rc0,Rc1,Rc2,Rc3,Rc4,Rc5]) rfl ⟨rfl,?_⟩
 repeat' (first | with_reducible exact B6.out | with_reducible refine Below.setCell ?_ (by first | exact g0 | (simp;done)) _)
set_option maxRecDepth 100000 in
set_option maxHeartbeats 1600000 in
theorem read_none (st lv:Int) (v:BitVec 64) (w:World) (hk:kindD lv v=0) :
  Calls Tryz.prog 325 #[.agg #[.int .i64 st,.int .i64 lv],.int .u64 (u v)] w fun e w'=>e=.returned (.agg #[.int .i64 st,.int .i64 lv,.int .i64 0,.int .i64 0,.bool false,.bool false,.bool false,.bool false,.bool false,.int .i64 0,.int .i64 (getN v 4 4)])∧Below w.heap.size w w':=by
 have X0:=Lib.hid (((BoxAt.new w #[.int .i64 st,.int .i64 lv] 376).alloc (.cells #[.int .i64 0,.int .i64 0,.int .i64 0,.int .i64 0,.bool false,.bool false,.bool false,.bool false,.bool false,.int .i64 0,.int .i64 0] 378)).alloc (.cells #[.int .i64 st,.int .i64 lv,.int .i64 0,.int .i64 0,.bool false,.bool false,.bool false,.bool false,.bool false,.int .i64 0,.int .i64 0] 378))
 have R0:=Lib.hid ((BoxAt.new (w.alloc (.cells #[.int .i64 st,.int .i64 lv] 376)) #[.int .i64 0,.int .i64 0,.int .i64 0,.int .i64 0,.bool false,.bool false,.bool false,.bool false,.bool false,.int .i64 0,.int .i64 0] 378).alloc (.cells #[.int .i64 st,.int .i64 lv,.int .i64 0,.int .i64 0,.bool false,.bool false,.bool false,.bool false,.bool false,.int .i64 0,.int .i64 0] 378))
 have N0:=Lib.hid (BoxAt.new ((w.alloc (.cells #[.int .i64 st,.int .i64 lv] 376)).alloc (.cells #[.int .i64 0,.int .i64 0,.int .i64 0,.int .i64 0,.bool false,.bool false,.bool false,.bool false,.bool false,.int .i64 0,.int .i64 0] 378)) #[.int .i64 st,.int .i64 lv,.int .i64 0,.int .i64 0,.bool false,.bool false,.bool false,.bool false,.bool false,.int .i64 0,.int .i64 0] 378)
 rw [show (w.alloc (.cells #[.int .i64 st,.int .i64 lv] 376)).heap.size=w.heap.size+1 from by simp] at R0
 rw [show ((w.alloc (.cells #[.int .i64 st,.int .i64 lv] 376)).alloc (.cells #[.int .i64 0,.int .i64 0,.int .i64 0,.int .i64 0,.bool false,.bool false,.bool false,.bool false,.bool false,.int .i64 0,.int .i64 0] 378)).heap.size=w.heap.size+1+1 from by simp] at N0
 have B1:=Lib.hid (bel_alloc (bel_alloc (bel_alloc (Below.refl w.heap.size w) (.cells #[.int .i64 st,.int .i64 lv] 376)) (.cells #[.int .i64 0,.int .i64 0,.int .i64 0,.int .i64 0,.bool false,.bool false,.bool false,.bool false,.bool false,.int .i64 0,.int .i64 0] 378)) (.cells #[.int .i64 st,.int .i64 lv,.int .i64 0,.int .i64 0,.bool false,.bool false,.bool false,.bool false,.bool false,.int .i64 0,.int .i64 0] 378))
 have HK:=Lib.hid (fun W=>kind_any st lv v W)
 rw [hk] at HK
 clear hk
 have HN:=Lib.hid (fun W=>number_any v 4 4 W (by decide) (by decide))
 generalize getN v 4 4=nn at *
 go_enter Tryz.func325,Tryz.ntmps325
 go_wp2_with fail
 refine (HK.out _).mono ?_
 rintro e w2 ⟨rfl,hb2⟩
 have X2:=Lib.hid (X0.out.below hb2)
 have R2:=Lib.hid (R0.out.below hb2)
 have N2:=Lib.hid (N0.out.below hb2)
 have B2:=Lib.hid (bel_trans B1.out hb2)
 clear X0 R0 N0 B1 hb2
 have Nc2:=N2.out.get 2 (.int .i64 0) rfl
 have Nz2:=N2.out.free 2
 go_wp2_with fail
 clear Nc2 Nz2
 have X3:=Lib.hid (X2.out.other ⟨w.heap.size+1+1,2,none⟩ (.int .i64 0) (by first | assumption | (simp;done) | (simp;omega)))
 have R3:=Lib.hid (R2.out.other ⟨w.heap.size+1+1,2,none⟩ (.int .i64 0) (by first | assumption | (simp;done) | (simp;omega)))
 have N3:=Lib.hid (N2.out.set 2 (.int .i64 0) #[.int .i64 st,.int .i64 lv,.int .i64 0,.int .i64 0,.bool false,.bool false,.bool false,.bool false,.bool false,.int .i64 0,.int .i64 0] rfl)
 have B3:=Lib.hid (Below.setCell B2.out (p:=⟨w.heap.size+1+1,2,none⟩) (by first | assumption | (simp;done) | (simp;omega)) (.int .i64 0))
 clear X2 R2 N2 B2
 refine (HN.out _).mono ?_
 rintro e w4 ⟨rfl,hb4⟩
 have X4:=Lib.hid (X3.out.below hb4)
 have R4:=Lib.hid (R3.out.below hb4)
 have N4:=Lib.hid (N3.out.below hb4)
 have B4:=Lib.hid (bel_trans B3.out hb4)
 clear X3 R3 N3 B3 hb4
 have Nc0:=N4.out.get 0 (.int .i64 st) rfl
 have Nc1:=N4.out.get 1 (.int .i64 lv) rfl
 have Nc2:=N4.out.get 2 (.int .i64 0) rfl
 have Nc3:=N4.out.get 3 (.int .i64 0) rfl
 have Nc4:=N4.out.get 4 (.bool false) rfl
 have Nc5:=N4.out.get 5 (.bool false) rfl
 have Nc6:=N4.out.get 6 (.bool false) rfl
 have Nc7:=N4.out.get 7 (.bool false) rfl
 have Nc8:=N4.out.get 8 (.bool false) rfl
 have Nc9:=N4.out.get 9 (.int .i64 0) rfl
 have Nc10:=N4.out.get 10 (.int .i64 0) rfl
 have Nz10:=N4.out.free 10
 have Rc0:=R4.out.get 0 (.int .i64 0) rfl
 have Rc1:=R4.out.get 1 (.int .i64 0) rfl
 have Rc2:=R4.out.get 2 (.int .i64 0) rfl
 have Rc3:=R4.out.get 3 (.int .i64 0) rfl
 have Rc4:=R4.out.get 4 (.bool false) rfl
 have Rc5:=R4.out.get 5 (.bool false) rfl
 have Rc6:=R4.out.get 6 (.bool false) rfl
 have Rc7:=R4.out.get 7 (.bool false) rfl
 have Rc8:=R4.out.get 8 (.bool false) rfl
 have Rc9:=R4.out.get 9 (.int .i64 0) rfl
 have Rc10:=R4.out.get 10 (.int .i64 0) rfl
 have Rz0:=R4.out.free 0
 have Rz1:=R4.out.free 1
 have Rz2:=R4.out.free 2
 have Rz3:=R4.out.free 3
 have Rz4:=R4.out.free 4
 have Rz5:=R4.out.free 5
 have Rz6:=R4.out.free 6
 have Rz7:=R4.out.free 7
 have Rz8:=R4.out.free 8
 have Rz9:=R4.out.free 9
 have Rz10:=R4.out.free 10
 go_wp2
 refine bodyPost_ret (v:=.agg #[.int .i64 st,.int .i64 lv,.int .i64 0,.int .i64 0,.bool false,.bool false,.bool false,.bool false,.bool false,.int .i64 0,.int .i64 nn]) (by simp [results,Tryz.results325,go_sem,Rc0,Rc1,Rc2,Rc3,Rc4,Rc5,Rc6,Rc7,Rc8,Rc9,Rc10]) rfl ⟨rfl,?_⟩
 repeat' (first | with_reducible exact B4.out | with_reducible refine Below.setCell ?_ (by first | (simp;done) | (simp;omega)) _)
set_option maxRecDepth 100000 in
set_option maxHeartbeats 1600000 in
theorem read_table (st lv:Int) (v:BitVec 64) (w:World) (hk:kindD lv v=1) :
  Calls Tryz.prog 325 #[.agg #[.int .i64 st,.int .i64 lv],.int .u64 (u v)] w fun e w'=>e=.returned (.agg #[.int .i64 st,.int .i64 lv,.int .i64 1,.int .i64 (getN v 12 12),.bool false,.bool false,.bool false,.bool false,.bool false,.int .i64 0,.int .i64 0])∧Below w.heap.size w w':=by
 have X0:=Lib.hid (((BoxAt.new w #[.int .i64 st,.int .i64 lv] 376).alloc (.cells #[.int .i64 0,.int .i64 0,.int .i64 0,.int .i64 0,.bool false,.bool false,.bool false,.bool false,.bool false,.int .i64 0,.int .i64 0] 378)).alloc (.cells #[.int .i64 st,.int .i64 lv,.int .i64 0,.int .i64 0,.bool false,.bool false,.bool false,.bool false,.bool false,.int .i64 0,.int .i64 0] 378))
 have R0:=Lib.hid ((BoxAt.new (w.alloc (.cells #[.int .i64 st,.int .i64 lv] 376)) #[.int .i64 0,.int .i64 0,.int .i64 0,.int .i64 0,.bool false,.bool false,.bool false,.bool false,.bool false,.int .i64 0,.int .i64 0] 378).alloc (.cells #[.int .i64 st,.int .i64 lv,.int .i64 0,.int .i64 0,.bool false,.bool false,.bool false,.bool false,.bool false,.int .i64 0,.int .i64 0] 378))
 have N0:=Lib.hid (BoxAt.new ((w.alloc (.cells #[.int .i64 st,.int .i64 lv] 376)).alloc (.cells #[.int .i64 0,.int .i64 0,.int .i64 0,.int .i64 0,.bool false,.bool false,.bool false,.bool false,.bool false,.int .i64 0,.int .i64 0] 378)) #[.int .i64 st,.int .i64 lv,.int .i64 0,.int .i64 0,.bool false,.bool false,.bool false,.bool false,.bool false,.int .i64 0,.int .i64 0] 378)
 rw [show (w.alloc (.cells #[.int .i64 st,.int .i64 lv] 376)).heap.size=w.heap.size+1 from by simp] at R0
 rw [show ((w.alloc (.cells #[.int .i64 st,.int .i64 lv] 376)).alloc (.cells #[.int .i64 0,.int .i64 0,.int .i64 0,.int .i64 0,.bool false,.bool false,.bool false,.bool false,.bool false,.int .i64 0,.int .i64 0] 378)).heap.size=w.heap.size+1+1 from by simp] at N0
 have B1:=Lib.hid (bel_alloc (bel_alloc (bel_alloc (Below.refl w.heap.size w) (.cells #[.int .i64 st,.int .i64 lv] 376)) (.cells #[.int .i64 0,.int .i64 0,.int .i64 0,.int .i64 0,.bool false,.bool false,.bool false,.bool false,.bool false,.int .i64 0,.int .i64 0] 378)) (.cells #[.int .i64 st,.int .i64 lv,.int .i64 0,.int .i64 0,.bool false,.bool false,.bool false,.bool false,.bool false,.int .i64 0,.int .i64 0] 378))
 have HK:=Lib.hid (fun W=>kind_any st lv v W)
 rw [hk] at HK
 clear hk
 have HN:=Lib.hid (fun W=>number_any v 12 12 W (by decide) (by decide))
 generalize getN v 12 12=nn at *
 go_enter Tryz.func325,Tryz.ntmps325
 go_wp2_with fail
 refine (HK.out _).mono ?_
 rintro e w2 ⟨rfl,hb2⟩
 have X2:=Lib.hid (X0.out.below hb2)
 have R2:=Lib.hid (R0.out.below hb2)
 have N2:=Lib.hid (N0.out.below hb2)
 have B2:=Lib.hid (bel_trans B1.out hb2)
 clear X0 R0 N0 B1 hb2
 have Nc2:=N2.out.get 2 (.int .i64 0) rfl
 have Nz2:=N2.out.free 2
 go_wp2_with fail
 clear Nc2 Nz2
 have X3:=Lib.hid (X2.out.other ⟨w.heap.size+1+1,2,none⟩ (.int .i64 1) (by first | assumption | (simp;done) | (simp;omega)))
 have R3:=Lib.hid (R2.out.other ⟨w.heap.size+1+1,2,none⟩ (.int .i64 1) (by first | assumption | (simp;done) | (simp;omega)))
 have N3:=Lib.hid (N2.out.set 2 (.int .i64 1) #[.int .i64 st,.int .i64 lv,.int .i64 1,.int .i64 0,.bool false,.bool false,.bool false,.bool false,.bool false,.int .i64 0,.int .i64 0] rfl)
 have B3:=Lib.hid (Below.setCell B2.out (p:=⟨w.heap.size+1+1,2,none⟩) (by first | assumption | (simp;done) | (simp;omega)) (.int .i64 1))
 clear X2 R2 N2 B2
 refine (HN.out _).mono ?_
 rintro e w4 ⟨rfl,hb4⟩
 have X4:=Lib.hid (X3.out.below hb4)
 have R4:=Lib.hid (R3.out.below hb4)
 have N4:=Lib.hid (N3.out.below hb4)
 have B4:=Lib.hid (bel_trans B3.out hb4)
 clear X3 R3 N3 B3 hb4
 have Nc0:=N4.out.get 0 (.int .i64 st) rfl
 have Nc1:=N4.out.get 1 (.int .i64 lv) rfl
 have Nc2:=N4.out.get 2 (.int .i64 1) rfl
 have Nc3:=N4.out.get 3 (.int .i64 0) rfl
 have Nc4:=N4.out.get 4 (.bool false) rfl
 have Nc5:=N4.out.get 5 (.bool false) rfl
 have Nc6:=N4.out.get 6 (.bool false) rfl
 have Nc7:=N4.out.get 7 (.bool false) rfl
 have Nc8:=N4.out.get 8 (.bool false) rfl
 have Nc9:=N4.out.get 9 (.int .i64 0) rfl
 have Nc10:=N4.out.get 10 (.int .i64 0) rfl
 have Nz3:=N4.out.free 3
 have Rc0:=R4.out.get 0 (.int .i64 0) rfl
 have Rc1:=R4.out.get 1 (.int .i64 0) rfl
 have Rc2:=R4.out.get 2 (.int .i64 0) rfl
 have Rc3:=R4.out.get 3 (.int .i64 0) rfl
 have Rc4:=R4.out.get 4 (.bool false) rfl
 have Rc5:=R4.out.get 5 (.bool false) rfl
 have Rc6:=R4.out.get 6 (.bool false) rfl
 have Rc7:=R4.out.get 7 (.bool false) rfl
 have Rc8:=R4.out.get 8 (.bool false) rfl
 have Rc9:=R4.out.get 9 (.int .i64 0) rfl
 have Rc10:=R4.out.get 10 (.int .i64 0) rfl
 have Rz0:=R4.out.free 0
 have Rz1:=R4.out.free 1
 have Rz2:=R4.out.free 2
 have Rz3:=R4.out.free 3
 have Rz4:=R4.out.free 4
 have Rz5:=R4.out.free 5
 have Rz6:=R4.out.free 6
 have Rz7:=R4.out.free 7
 have Rz8:=R4.out.free 8
 have Rz9:=R4.out.free 9
 have Rz10:=R4.out.free 10
 go_wp2
 refine bodyPost_ret (v:=.agg #[.int .i64 st,.int .i64 lv,.int .i64 1,.int .i64 nn,.bool false,.bool false,.bool false,.bool false,.bool false,.int .i64 0,.int .i64 0]) (by simp [results,Tryz.results325,go_sem,Rc0,Rc1,Rc2,Rc3,Rc4,Rc5,Rc6,Rc7,Rc8,Rc9,Rc10]) rfl ⟨rfl,?_⟩
 repeat' (first | with_reducible exact B4.out | with_reducible refine Below.setCell ?_ (by first | (simp;done) | (simp;omega)) _)
set_option maxRecDepth 100000 in
set_option maxHeartbeats 1600000 in
theorem read_leaf (st lv:Int) (v:BitVec 64) (w:World) (hk:kindD lv v=2) (a0 a1 a2 a3 a4:Bool) (a5:Int)
  (HA:Hid (∀ W,Calls Tryz.prog 334 #[.agg #[.int .i64 st,.int .i64 lv],.int .u64 (u v)] W fun e w'=>e=.returned (.agg #[.bool a0,.bool a1,.bool a2,.bool a3,.bool a4,.int .i64 a5])∧Below W.heap.size W w')) :
  Calls Tryz.prog 325 #[.agg #[.int .i64 st,.int .i64 lv],.int .u64 (u v)] w fun e w'=>e=.returned (.agg #[.int .i64 st,.int .i64 lv,.int .i64 2,.int .i64 (getN v 12 12),.bool a0,.bool a1,.bool a2,.bool a3,.bool a4,.int .i64 a5,.int .i64 0])∧Below w.heap.size w w':=by
 have X0:=Lib.hid (((BoxAt.new w #[.int .i64 st,.int .i64 lv] 376).alloc (.cells #[.int .i64 0,.int .i64 0,.int .i64 0,.int .i64 0,.bool false,.bool false,.bool false,.bool false,.bool false,.int .i64 0,.int .i64 0] 378)).alloc (.cells #[.int .i64 st,.int .i64 lv,.int .i64 0,.int .i64 0,.bool false,.bool false,.bool false,.bool false,.bool false,.int .i64 0,.int .i64 0] 378))
 have R0:=Lib.hid ((BoxAt.new (w.alloc (.cells #[.int .i64 st,.int .i64 lv] 376)) #[.int .i64 0,.int .i64 0,.int .i64 0,.int .i64 0,.bool false,.bool false,.bool false,.bool false,.bool false,.int .i64 0,.int .i64 0] 378).alloc (.cells #[.int .i64 st,.int .i64 lv,.int .i64 0,.int .i64 0,.bool false,.bool false,.bool false,.bool false,.bool false,.int .i64 0,.int .i64 0] 378))
 have N0:=Lib.hid (BoxAt.new ((w.alloc (.cells #[.int .i64 st,.int .i64 lv] 376)).alloc (.cells #[.int .i64 0,.int .i64 0,.int .i64 0,.int .i64 0,.bool false,.bool false,.bool false,.bool false,.bool false,.int .i64 0,.int .i64 0] 378)) #[.int .i64 st,.int .i64 lv,.int .i64 0,.int .i64 0,.bool false,.bool false,.bool false,.bool false,.bool false,.int .i64 0,.int .i64 0] 378)
 rw [show (w.alloc (.cells #[.int .i64 st,.int .i64 lv] 376)).heap.size=w.heap.size+1 from by simp] at R0
 rw [show ((w.alloc (.cells #[.int .i64 st,.int .i64 lv] 376)).alloc (.cells #[.int .i64 0,.int .i64 0,.int .i64 0,.int .i64 0,.bool false,.bool false,.bool false,.bool false,.bool false,.int .i64 0,.int .i64 0] 378)).heap.size=w.heap.size+1+1 from by simp] at N0
 have B1:=Lib.hid (bel_alloc (bel_alloc (bel_alloc (Below.refl w.heap.size w) (.cells #[.int .i64 st,.int .i64 lv] 376)) (.cells #[.int .i64 0,.int .i64 0,.int .i64 0,.int .i64 0,.bool false,.bool false,.bool false,.bool false,.bool false,.int .i64 0,.int .i64 0] 378)) (.cells #[.int .i64 st,.int .i64 lv,.int .i64 0,.int .i64 0,.bool false,.bool false,.bool false,.bool false,.bool false,.int .i64 0,.int .i64 0] 378))
 have HK:=Lib.hid (fun W=>kind_any st lv v W)
 rw [hk] at HK
 clear hk
 have HN:=Lib.hid (fun W=>number_any v 12 12 W (by decide) (by decide))
 generalize getN v 12 12=nn at *
 go_enter Tryz.func325,Tryz.ntmps325
 go_wp2_with fail
 refine (HK.out _).mono ?_
 rintro e w2 ⟨rfl,hb2⟩
 have X2:=Lib.hid (X0.out.below hb2)
 have R2:=Lib.hid (R0.out.below hb2)
 have N2:=Lib.hid (N0.out.below hb2)
 have B2:=Lib.hid (bel_trans B1.out hb2)
 clear X0 R0 N0 B1 hb2
 have Nc2:=N2.out.get 2 (.int .i64 0) rfl
 have Nz2:=N2.out.free 2
 go_wp2_with fail
 clear Nc2 Nz2
 have X3:=Lib.hid (X2.out.other ⟨w.heap.size+1+1,2,none⟩ (.int .i64 2) (by first | assumption | (simp;done) | (simp;omega)))
 have R3:=Lib.hid (R2.out.other ⟨w.heap.size+1+1,2,none⟩ (.int .i64 2) (by first | assumption | (simp;done) | (simp;omega)))
 have N3:=Lib.hid (N2.out.set 2 (.int .i64 2) #[.int .i64 st,.int .i64 lv,.int .i64 2,.int .i64 0,.bool false,.bool false,.bool false,.bool false,.bool false,.int .i64 0,.int .i64 0] rfl)
 have B3:=Lib.hid (Below.setCell B2.out (p:=⟨w.heap.size+1+1,2,none⟩) (by first | assumption | (simp;done) | (simp;omega)) (.int .i64 2))
 clear X2 R2 N2 B2
 refine (HN.out _).mono ?_
 rintro e w4 ⟨rfl,hb4⟩
 have X4:=Lib.hid (X3.out.below hb4)
 have R4:=Lib.hid (R3.out.below hb4)
 have N4:=Lib.hid (N3.out.below hb4)
 have B4:=Lib.hid (bel_trans B3.out hb4)
 clear X3 R3 N3 B3 hb4
 have Nc0:=N4.out.get 0 (.int .i64 st) rfl
 have Nc1:=N4.out.get 1 (.int .i64 lv) rfl
 have Nc2:=N4.out.get 2 (.int .i64 2) rfl
 have Nc3:=N4.out.get 3 (.int .i64 0) rfl
 have Nc4:=N4.out.get 4 (.bool false) rfl
 have Nc5:=N4.out.get 5 (.bool false) rfl
 have Nc6:=N4.out.get 6 (.bool false) rfl
 have Nc7:=N4.out.get 7 (.bool false) rfl
 have Nc8:=N4.out.get 8 (.bool false) rfl
 have Nc9:=N4.out.get 9 (.int .i64 0) rfl
 have Nc10:=N4.out.get 10 (.int .i64 0) rfl
 have Nz3:=N4.out.free 3
 have Xc0:=X4.out.get 0 (.int .i64 st) rfl
 have Xc1:=X4.out.get 1 (.int .i64 lv) rfl
 go_wp2_with fail
 clear Nc0 Nc1 Nc2 Nc3 Nc4 Nc5 Nc6 Nc7 Nc8 Nc9 Nc10 Nz3
 clear Xc0 Xc1
 have X5:=Lib.hid (X4.out.other ⟨w.heap.size+1+1,3,none⟩ (.int .i64 nn) (by first | assumption | (simp;done) | (simp;omega)))
 have R5:=Lib.hid (R4.out.other ⟨w.heap.size+1+1,3,none⟩ (.int .i64 nn) (by first | assumption | (simp;done) | (simp;omega)))
 have N5:=Lib.hid (N4.out.set 3 (.int .i64 nn) #[.int .i64 st,.int .i64 lv,.int .i64 2,.int .i64 nn,.bool false,.bool false,.bool false,.bool false,.bool false,.int .i64 0,.int .i64 0] rfl)
 have B5:=Lib.hid (Below.setCell B4.out (p:=⟨w.heap.size+1+1,3,none⟩) (by first | assumption | (simp;done) | (simp;omega)) (.int .i64 nn))
 clear X4 R4 N4 B4
 refine (HA.out _).mono ?_
 rintro e w6 ⟨rfl,hb6⟩
 have X6:=Lib.hid (X5.out.below hb6)
 have R6:=Lib.hid (R5.out.below hb6)
 have N6:=Lib.hid (N5.out.below hb6)
 have B6:=Lib.hid (bel_trans B5.out hb6)
 clear X5 R5 N5 B5 hb6
 have Nc4:=N6.out.get 4 (.bool false) rfl
 have Nc5:=N6.out.get 5 (.bool false) rfl
 have Nc6:=N6.out.get 6 (.bool false) rfl
 have Nc7:=N6.out.get 7 (.bool false) rfl
 have Nc8:=N6.out.get 8 (.bool false) rfl
 have Nc9:=N6.out.get 9 (.int .i64 0) rfl
 have Nz4:=N6.out.free 4
 have Nz5:=N6.out.free 5
 have Nz6:=N6.out.free 6
 have Nz7:=N6.out.free 7
 have Nz8:=N6.out.free 8
 have Nz9:=N6.out.free 9
 go_upto_region 9 with fail
 clear Nc4 Nc5 Nc6 Nc7 Nc8 Nc9 Nz4 Nz5 Nz6 Nz7 Nz8 Nz9
 have X7:=Lib.hid (X6.out.other ⟨w.heap.size+1+1,4,none⟩ (.bool a0) (by first | assumption | (simp;done) | (simp;omega)))
 have R7:=Lib.hid (R6.out.other ⟨w.heap.size+1+1,4,none⟩ (.bool a0) (by first | assumption | (simp;done) | (simp;omega)))
 have N7:=Lib.hid (N6.out.set 4 (.bool a0) #[.int .i64 st,.int .i64 lv,.int .i64 2,.int .i64 nn,.bool a0,.bool false,.bool false,.bool false,.bool false,.int .i64 0,.int .i64 0] rfl)
 have B7:=Lib.hid (Below.setCell B6.out (p:=⟨w.heap.size+1+1,4,none⟩) (by first | assumption | (simp;done) | (simp;omega)) (.bool a0))
 clear X6 R6 N6 B6
 have X8:=Lib.hid (X7.out.other ⟨w.heap.size+1+1,5,none⟩ (.bool a1) (by first | assumption | (simp;done) | (simp;omega)))
 have R8:=Lib.hid (R7.out.other ⟨w.heap.size+1+1,5,none⟩ (.bool a1) (by first | assumption | (simp;done) | (simp;omega)))
 have N8:=Lib.hid (N7.out.set 5 (.bool a1) #[.int .i64 st,.int .i64 lv,.int .i64 2,.int .i64 nn,.bool a0,.bool a1,.bool false,.bool false,.bool false,.int .i64 0,.int .i64 0] rfl)
 have B8:=Lib.hid (Below.setCell B7.out (p:=⟨w.heap.size+1+1,5,none⟩) (by first | assumption | (simp;done) | (simp;omega)) (.bool a1))
 clear X7 R7 N7 B7
 have X9:=Lib.hid (X8.out.other ⟨w.heap.size+1+1,6,none⟩ (.bool a2) (by first | assumption | (simp;done) | (simp;omega)))
 have R9:=Lib.hid (R8.out.other ⟨w.heap.size+1+1,6,none⟩ (.bool a2) (by first | assumption | (simp;done) | (simp;omega)))
 have N9:=Lib.hid (N8.out.set 6 (.bool a2) #[.int .i64 st,.int .i64 lv,.int .i64 2,.int .i64 nn,.bool a0,.bool a1,.bool a2,.bool false,.bool false,.int .i64 0,.int .i64 0] rfl)
 have B9:=Lib.hid (Below.setCell B8.out (p:=⟨w.heap.size+1+1,6,none⟩) (by first | assumption | (simp;done) | (simp;omega)) (.bool a2))
 clear X8 R8 N8 B8
 have X10:=Lib.hid (X9.out.other ⟨w.heap.size+1+1,7,none⟩ (.bool a3) (by first | assumption | (simp;done) | (simp;omega)))
 have R10:=Lib.hid (R9.out.other ⟨w.heap.size+1+1,7,none⟩ (.bool a3) (by first | assumption | (simp;done) | (simp;omega)))
 have N10:=Lib.hid (N9.out.set 7 (.bool a3) #[.int .i64 st,.int .i64 lv,.int .i64 2,.int .i64 nn,.bool a0,.bool a1,.bool a2,.bool a3,.bool false,.int .i64 0,.int .i64 0] rfl)
 have B10:=Lib.hid (Below.setCell B9.out (p:=⟨w.heap.size+1+1,7,none⟩) (by first | assumption | (simp;done) | (simp;omega)) (.bool a3))
 clear X9 R9 N9 B9
 have X11:=Lib.hid (X10.out.other ⟨w.heap.size+1+1,8,none⟩ (.bool a4) (by first | assumption | (simp;done) | (simp;omega)))
 have R11:=Lib.hid (R10.out.other ⟨w.heap.size+1+1,8,none⟩ (.bool a4) (by first | assumption | (simp;done) | (simp;omega)))
 have N11:=Lib.hid (N10.out.set 8 (.bool a4) #[.int .i64 st,.int .i64 lv,.int .i64 2,.int .i64 nn,.bool a0,.bool a1,.bool a2,.bool a3,.bool a4,.int .i64 0,.int .i64 0] rfl)
 have B11:=Lib.hid (Below.setCell B10.out (p:=⟨w.heap.size+1+1,8,none⟩) (by first | assumption | (simp;done) | (simp;omega)) (.bool a4))
 clear X10 R10 N10 B10
 have X12:=Lib.hid (X11.out.other ⟨w.heap.size+1+1,9,none⟩ (.int .i64 a5) (by first | assumption | (simp;done) | (simp;omega)))
 have R12:=Lib.hid (R11.out.other ⟨w.heap.size+1+1,9,none⟩ (.int .i64 a5) (by first | assumption | (simp;done) | (simp;omega)))
 have N12:=Lib.hid (N11.out.set 9 (.int .i64 a5) #[.int .i64 st,.int .i64 lv,.int .i64 2,.int .i64 nn,.bool a0,.bool a1,.bool a2,.bool a3,.bool a4,.int .i64 a5,.int .i64 0] rfl)
 have B12:=Lib.hid (Below.setCell B11.out (p:=⟨w.heap.size+1+1,9,none⟩) (by first | assumption | (simp;done) | (simp;omega)) (.int .i64 a5))
 clear X11 R11 N11 B11
 obtain ⟨W7,hW7⟩:∃ W7,W7=((((((w6.setCell ⟨w.heap.size+1+1,4,none⟩ (.bool a0)).setCell ⟨w.heap.size+1+1,5,none⟩ (.bool a1)).setCell ⟨w.heap.size+1+1,6,none⟩ (.bool a2)).setCell ⟨w.heap.size+1+1,7,none⟩ (.bool a3)).setCell ⟨w.heap.size+1+1,8,none⟩ (.bool a4)).setCell ⟨w.heap.size+1+1,9,none⟩ (.int .i64 a5)):=⟨_,rfl⟩
 rw [← hW7] at X12 R12 N12 B12 ⊢
 clear hW7
 have Nc0:=N12.out.get 0 (.int .i64 st) rfl
 have Nc1:=N12.out.get 1 (.int .i64 lv) rfl
 have Nc2:=N12.out.get 2 (.int .i64 2) rfl
 have Nc3:=N12.out.get 3 (.int .i64 nn) rfl
 have Nc4:=N12.out.get 4 (.bool a0) rfl
 have Nc5:=N12.out.get 5 (.bool a1) rfl
 have Nc6:=N12.out.get 6 (.bool a2) rfl
 have Nc7:=N12.out.get 7 (.bool a3) rfl
 have Nc8:=N12.out.get 8 (.bool a4) rfl
 have Nc9:=N12.out.get 9 (.int .i64 a5) rfl
 have Nc10:=N12.out.get 10 (.int .i64 0) rfl
 have Rc0:=R12.out.get 0 (.int .i64 0) rfl
 have Rc1:=R12.out.get 1 (.int .i64 0) rfl
 have Rc2:=R12.out.get 2 (.int .i64 0) rfl
 have Rc3:=R12.out.get 3 (.int .i64 0) rfl
 have Rc4:=R12.out.get 4 (.bool false) rfl
 have Rc5:=R12.out.get 5 (.bool false) rfl
 have Rc6:=R12.out.get 6 (.bool false) rfl
 have Rc7:=R12.out.get 7 (.bool false) rfl
 have Rc8:=R12.out.get 8 (.bool false) rfl
 have Rc9:=R12.out.get 9 (.int .i64 0) rfl
 have Rc10:=R12.out.get 10 (.int .i64 0) rfl
 have Rz0:=R12.out.free 0
 have Rz1:=R12.out.free 1
 have Rz2:=R12.out.free 2
 have Rz3:=R12.out.free 3
 have Rz4:=R12.out.free 4
 have Rz5:=R12.out.free 5
 have Rz6:=R12.out.free 6
 have Rz7:=R12.out.free 7
 have Rz8:=R12.out.free 8
 have Rz9:=R12.out.free 9
 have Rz10:=R12.out.free 10
 go_wp2
 refine bodyPost_ret (v:=.agg #[.int .i64 st,.int .i64 lv,.int .i64 2,.int .i64 nn,.bool a0,.bool a1,.bool a2,.bool a3,.bool a4,.int .i64 a5,.int .i64 0]) (by simp [results,Tryz.results325,go_sem,Rc0,Rc1,Rc2,Rc3,Rc4,Rc5,Rc6,Rc7,Rc8,Rc9,Rc10]) rfl ⟨rfl,?_⟩
 repeat' (first | with_reducible exact B12.out | with_reducible refine Below.setCell ?_ (by first | (simp;done) | (simp;omega)) _)
def dentV (st lv:Int) (d:Dsc):Value:=.agg #[.int .i64 st,.int .i64 lv,.int .i64 d.k,.int .i64 d.f,.bool d.r,.bool d.w,.bool d.x,.bool d.a,.bool d.n,.int .i64 d.s,.int .i64 d.o]
def dscV (d:Dsc):Value:=.agg #[.int .i64 d.k,.int .i64 d.f,.bool d.r,.bool d.w,.bool d.x,.bool d.a,.bool d.n,.int .i64 d.s,.int .i64 d.o]
theorem kind_cases (lv:Int) (v:BitVec 64):kindD lv v=0∨kindD lv v=1∨kindD lv v=2:=by
 unfold kindD
 split
 ·exact .inl rfl
 ·split
  ·exact .inr (.inl rfl)
  ·exact .inr (.inr rfl)
theorem read_any (st lv:Int) (v:BitVec 64) (w:World) :
  Calls Tryz.prog 325 #[.agg #[.int .i64 st,.int .i64 lv],.int .u64 (u v)] w fun e w'=>e=.returned (dentV st lv (readD st lv v))∧Below w.heap.size w w':=by
 unfold readD
 rcases kind_cases lv v with h | h | h
 ·rw [if_pos h]
  exact read_none st lv v w h
 ·rw [if_neg (by omega),if_pos h]
  exact read_table st lv v w h
 ·rw [if_neg (by omega),if_neg (by omega)]
  by_cases h1:st=1
  ·subst h1
   rw [if_pos rfl]
   exact read_leaf 1 lv v w h _ _ _ _ _ _ (Lib.hid (fun W=>sattr_one lv v W))
  ·rw [if_neg h1]
   exact read_leaf st lv v w h _ _ _ _ _ _ (Lib.hid (fun W=>sattr_two st lv v W (by simpa using h1)))
end Go.Proofs.YtlgpdbgingjpbaaGreat
