/- What a word is: package desc's Of,the reference's Of: contracts. -/
import Derived.Test.YtlgpdbgingjpbaaGreatDg
set_option linter.all false
namespace Go.Proofs.YtlgpdbgingjpbaaGreat
open Go.ChangeShapes Go.WideShapes Go.ChangeAt Go.RowKit Go.Deep
set_option maxRecDepth 100000 in
set_option maxHeartbeats 1600000 in
theorem of_bad (st lv:Int) (v:BitVec 64) (k f:Int) (r wr x a n:Bool) (s o:Int) (w:World) (HS:Hid (∀ W,Calls Tryz.prog 324 #[.agg #[.int .i64 st,.int .i64 lv]] W fun e w'=>e=.returned (.bool true)∧w'=W.alloc (.cells #[.int .i64 st,.int .i64 lv] 376)))
  (HR:Hid (∀ W,Calls Tryz.prog 325 #[.agg #[.int .i64 st,.int .i64 lv],.int .u64 (u v)] W fun e w'=>e=.returned (.agg #[.int .i64 st,.int .i64 lv,.int .i64 k,.int .i64 f,.bool r,.bool wr,.bool x,.bool a,.bool n,.int .i64 s,.int .i64 o])∧Below W.heap.size W w'))
  (HM:Hid (∀ W,Calls Tryz.prog 326 #[.agg #[.int .i64 st,.int .i64 lv,.int .i64 k,.int .i64 f,.bool r,.bool wr,.bool x,.bool a,.bool n,.int .i64 s,.int .i64 o]] W fun e w'=>e=.returned (.bool false)∧Below W.heap.size W w')) :
  Calls Tryz.prog 314 #[.int .i64 st,.int .i64 lv,.int .u64 (u v)] w fun e w'=>e=.returned (.tuple #[.agg #[.int .i64 0,.int .i64 0,.bool false,.bool false,.bool false,.bool false,.bool false,.int .i64 0,.int .i64 0],.int .i64 0])∧Below w.heap.size w w':=by
 have R0:=Lib.hid (((BoxAt.new w z9 243).alloc (.cells #[.int .i64 st,.int .i64 lv] 376)).alloc (.cells #[.int .i64 st,.int .i64 lv] 376))
 have X0:=Lib.hid ((BoxAt.new (w.alloc (.cells z9 243)) #[.int .i64 st,.int .i64 lv] 376).alloc (.cells #[.int .i64 st,.int .i64 lv] 376))
 rw [show (w.alloc (.cells z9 243)).heap.size=w.heap.size+1 from by simp] at X0
 have B1:=Lib.hid (bel_alloc (bel_alloc (bel_alloc (Below.refl w.heap.size w) (.cells z9 243)) (.cells #[.int .i64 st,.int .i64 lv] 376)) (.cells #[.int .i64 st,.int .i64 lv] 376))
 go_enter Tryz.func314,Tryz.ntmps314
 go_wp2_with fail
 refine (HS.out _).mono ?_
 rintro e w0 ⟨rfl,rfl⟩
 go_wp2_with fail
 refine (HR.out _).mono ?_
 rintro e w2 ⟨rfl,hb2⟩
 have R2:=Lib.hid (R0.out.below hb2)
 have X2:=Lib.hid (X0.out.below hb2)
 have B2:=Lib.hid (bel_trans B1.out hb2)
 clear R0 X0 B1 hb2
 have hlt:=X2.out.lt
 have Xa:=Lib.hid (X2.out.alloc (.cells #[.int .i64 st,.int .i64 lv,.int .i64 k,.int .i64 f,.bool r,.bool wr,.bool x,.bool a,.bool n,.int .i64 s,.int .i64 o] 378))
 clear X2
 have Ra:=Lib.hid (R2.out.alloc (.cells #[.int .i64 st,.int .i64 lv,.int .i64 k,.int .i64 f,.bool r,.bool wr,.bool x,.bool a,.bool n,.int .i64 s,.int .i64 o] 378))
 clear R2
 have Ea:=Lib.hid (BoxAt.new w2 #[.int .i64 st,.int .i64 lv,.int .i64 k,.int .i64 f,.bool r,.bool wr,.bool x,.bool a,.bool n,.int .i64 s,.int .i64 o] 378)
 have Ba:=Lib.hid (bel_alloc B2.out (.cells #[.int .i64 st,.int .i64 lv,.int .i64 k,.int .i64 f,.bool r,.bool wr,.bool x,.bool a,.bool n,.int .i64 s,.int .i64 o] 378))
 clear B2
 have Ec0:=Ea.out.get 0 (.int .i64 st) rfl
 have Ec1:=Ea.out.get 1 (.int .i64 lv) rfl
 have Ec2:=Ea.out.get 2 (.int .i64 k) rfl
 have Ec3:=Ea.out.get 3 (.int .i64 f) rfl
 have Ec4:=Ea.out.get 4 (.bool r) rfl
 have Ec5:=Ea.out.get 5 (.bool wr) rfl
 have Ec6:=Ea.out.get 6 (.bool x) rfl
 have Ec7:=Ea.out.get 7 (.bool a) rfl
 have Ec8:=Ea.out.get 8 (.bool n) rfl
 have Ec9:=Ea.out.get 9 (.int .i64 s) rfl
 have Ec10:=Ea.out.get 10 (.int .i64 o) rfl
 go_wp2_with fail
 clear Ec0 Ec1 Ec2 Ec3 Ec4 Ec5 Ec6 Ec7 Ec8 Ec9 Ec10
 obtain ⟨W3,hW3⟩:∃ W3,W3=w2.alloc (.cells #[.int .i64 st,.int .i64 lv,.int .i64 k,.int .i64 f,.bool r,.bool wr,.bool x,.bool a,.bool n,.int .i64 s,.int .i64 o] 378):=⟨_,rfl⟩
 rw [← hW3] at Xa Ra Ea Ba ⊢
 obtain ⟨G,hG⟩:∃ G,G=w2.heap.size:=⟨_,rfl⟩
 rw [← hG] at Ea hlt ⊢
 clear hW3 hG
 have g0:w.heap.size≤G:=by omega
 have g1:G≠w.heap.size:=by omega
 have g2:w.heap.size≠G:=by omega
 clear hlt
 refine (HM.out _).mono ?_
 rintro e w3 ⟨rfl,hb3⟩
 have R3:=Lib.hid (Ra.out.below hb3)
 have X3:=Lib.hid (Xa.out.below hb3)
 have E3:=Lib.hid (Ea.out.below hb3)
 have B3:=Lib.hid (bel_trans Ba.out hb3)
 clear Ra Xa Ea Ba hb3
 have Rc0:=R3.out.get 0 (.int .i64 0) rfl
 have Rc1:=R3.out.get 1 (.int .i64 0) rfl
 have Rc2:=R3.out.get 2 (.bool false) rfl
 have Rc3:=R3.out.get 3 (.bool false) rfl
 have Rc4:=R3.out.get 4 (.bool false) rfl
 have Rc5:=R3.out.get 5 (.bool false) rfl
 have Rc6:=R3.out.get 6 (.bool false) rfl
 have Rc7:=R3.out.get 7 (.int .i64 0) rfl
 have Rc8:=R3.out.get 8 (.int .i64 0) rfl
 have Rz0:=R3.out.free 0
 have Rz1:=R3.out.free 1
 have Rz2:=R3.out.free 2
 have Rz3:=R3.out.free 3
 have Rz4:=R3.out.free 4
 have Rz5:=R3.out.free 5
 have Rz6:=R3.out.free 6
 have Rz7:=R3.out.free 7
 have Rz8:=R3.out.free 8
 go_wp2
 refine bodyPost_ret (v:=.tuple #[.agg #[.int .i64 0,.int .i64 0,.bool false,.bool false,.bool false,.bool false,.bool false,.int .i64 0,.int .i64 0],.int .i64 0]) (by simp [results,Tryz.results314,go_sem,Rc0,Rc1,Rc2,Rc3,Rc4,Rc5,Rc6,Rc7,Rc8]) rfl ⟨rfl,?_⟩
 repeat' (first | with_reducible exact B3.out | with_reducible refine Below.setCell ?_ (by first | exact g0 | (simp;done)) _)
set_option maxRecDepth 100000 in
set_option maxHeartbeats 1600000 in
theorem of_other (st lv:Int) (v:BitVec 64) (k f:Int) (r wr x a n:Bool) (s o:Int) (wd:BitVec 64) (w:World) (HS:Hid (∀ W,Calls Tryz.prog 324 #[.agg #[.int .i64 st,.int .i64 lv]] W fun e w'=>e=.returned (.bool true)∧w'=W.alloc (.cells #[.int .i64 st,.int .i64 lv] 376)))
  (HR:Hid (∀ W,Calls Tryz.prog 325 #[.agg #[.int .i64 st,.int .i64 lv],.int .u64 (u v)] W fun e w'=>e=.returned (.agg #[.int .i64 st,.int .i64 lv,.int .i64 k,.int .i64 f,.bool r,.bool wr,.bool x,.bool a,.bool n,.int .i64 s,.int .i64 o])∧Below W.heap.size W w'))
  (HM:Hid (∀ W,Calls Tryz.prog 326 #[.agg #[.int .i64 st,.int .i64 lv,.int .i64 k,.int .i64 f,.bool r,.bool wr,.bool x,.bool a,.bool n,.int .i64 s,.int .i64 o]] W fun e w'=>e=.returned (.bool true)∧Below W.heap.size W w'))
  (HW:Hid (∀ W,Calls Tryz.prog 327 #[.agg #[.int .i64 st,.int .i64 lv,.int .i64 k,.int .i64 f,.bool r,.bool wr,.bool x,.bool a,.bool n,.int .i64 s,.int .i64 o]] W fun e w'=>e=.returned (.int .u64 (u wd))∧Below W.heap.size W w')) (hq:(u wd != u v)=true) :
  Calls Tryz.prog 314 #[.int .i64 st,.int .i64 lv,.int .u64 (u v)] w fun e w'=>e=.returned (.tuple #[.agg #[.int .i64 0,.int .i64 0,.bool false,.bool false,.bool false,.bool false,.bool false,.int .i64 0,.int .i64 0],.int .i64 0])∧Below w.heap.size w w':=by
 have R0:=Lib.hid (((BoxAt.new w z9 243).alloc (.cells #[.int .i64 st,.int .i64 lv] 376)).alloc (.cells #[.int .i64 st,.int .i64 lv] 376))
 have X0:=Lib.hid ((BoxAt.new (w.alloc (.cells z9 243)) #[.int .i64 st,.int .i64 lv] 376).alloc (.cells #[.int .i64 st,.int .i64 lv] 376))
 rw [show (w.alloc (.cells z9 243)).heap.size=w.heap.size+1 from by simp] at X0
 have B1:=Lib.hid (bel_alloc (bel_alloc (bel_alloc (Below.refl w.heap.size w) (.cells z9 243)) (.cells #[.int .i64 st,.int .i64 lv] 376)) (.cells #[.int .i64 st,.int .i64 lv] 376))
 go_enter Tryz.func314,Tryz.ntmps314
 go_wp2_with fail
 refine (HS.out _).mono ?_
 rintro e w0 ⟨rfl,rfl⟩
 go_wp2_with fail
 refine (HR.out _).mono ?_
 rintro e w2 ⟨rfl,hb2⟩
 have R2:=Lib.hid (R0.out.below hb2)
 have X2:=Lib.hid (X0.out.below hb2)
 have B2:=Lib.hid (bel_trans B1.out hb2)
 clear R0 X0 B1 hb2
 have hlt:=X2.out.lt
 have Xa:=Lib.hid (X2.out.alloc (.cells #[.int .i64 st,.int .i64 lv,.int .i64 k,.int .i64 f,.bool r,.bool wr,.bool x,.bool a,.bool n,.int .i64 s,.int .i64 o] 378))
 clear X2
 have Ra:=Lib.hid (R2.out.alloc (.cells #[.int .i64 st,.int .i64 lv,.int .i64 k,.int .i64 f,.bool r,.bool wr,.bool x,.bool a,.bool n,.int .i64 s,.int .i64 o] 378))
 clear R2
 have Ea:=Lib.hid (BoxAt.new w2 #[.int .i64 st,.int .i64 lv,.int .i64 k,.int .i64 f,.bool r,.bool wr,.bool x,.bool a,.bool n,.int .i64 s,.int .i64 o] 378)
 have Ba:=Lib.hid (bel_alloc B2.out (.cells #[.int .i64 st,.int .i64 lv,.int .i64 k,.int .i64 f,.bool r,.bool wr,.bool x,.bool a,.bool n,.int .i64 s,.int .i64 o] 378))
 clear B2
 have Ec0:=Ea.out.get 0 (.int .i64 st) rfl
 have Ec1:=Ea.out.get 1 (.int .i64 lv) rfl
 have Ec2:=Ea.out.get 2 (.int .i64 k) rfl
 have Ec3:=Ea.out.get 3 (.int .i64 f) rfl
 have Ec4:=Ea.out.get 4 (.bool r) rfl
 have Ec5:=Ea.out.get 5 (.bool wr) rfl
 have Ec6:=Ea.out.get 6 (.bool x) rfl
 have Ec7:=Ea.out.get 7 (.bool a) rfl
 have Ec8:=Ea.out.get 8 (.bool n) rfl
 have Ec9:=Ea.out.get 9 (.int .i64 s) rfl
 have Ec10:=Ea.out.get 10 (.int .i64 o) rfl
 go_wp2_with fail
 clear Ec0 Ec1 Ec2 Ec3 Ec4 Ec5 Ec6 Ec7 Ec8 Ec9 Ec10
 obtain ⟨W3,hW3⟩:∃ W3,W3=w2.alloc (.cells #[.int .i64 st,.int .i64 lv,.int .i64 k,.int .i64 f,.bool r,.bool wr,.bool x,.bool a,.bool n,.int .i64 s,.int .i64 o] 378):=⟨_,rfl⟩
 rw [← hW3] at Xa Ra Ea Ba ⊢
 obtain ⟨G,hG⟩:∃ G,G=w2.heap.size:=⟨_,rfl⟩
 rw [← hG] at Ea hlt ⊢
 clear hW3 hG
 have g0:w.heap.size≤G:=by omega
 have g1:G≠w.heap.size:=by omega
 have g2:w.heap.size≠G:=by omega
 clear hlt
 refine (HM.out _).mono ?_
 rintro e w3 ⟨rfl,hb3⟩
 have R3:=Lib.hid (Ra.out.below hb3)
 have X3:=Lib.hid (Xa.out.below hb3)
 have E3:=Lib.hid (Ea.out.below hb3)
 have B3:=Lib.hid (bel_trans Ba.out hb3)
 clear Ra Xa Ea Ba hb3
 have Ec0:=E3.out.get 0 (.int .i64 st) rfl
 have Ec1:=E3.out.get 1 (.int .i64 lv) rfl
 have Ec2:=E3.out.get 2 (.int .i64 k) rfl
 have Ec3:=E3.out.get 3 (.int .i64 f) rfl
 have Ec4:=E3.out.get 4 (.bool r) rfl
 have Ec5:=E3.out.get 5 (.bool wr) rfl
 have Ec6:=E3.out.get 6 (.bool x) rfl
 have Ec7:=E3.out.get 7 (.bool a) rfl
 have Ec8:=E3.out.get 8 (.bool n) rfl
 have Ec9:=E3.out.get 9 (.int .i64 s) rfl
 have Ec10:=E3.out.get 10 (.int .i64 o) rfl
 go_wp2_with fail
 clear Ec0 Ec1 Ec2 Ec3 Ec4 Ec5 Ec6 Ec7 Ec8 Ec9 Ec10
 refine (HW.out _).mono ?_
 rintro e w4 ⟨rfl,hb4⟩
 have R4:=Lib.hid (R3.out.below hb4)
 have X4:=Lib.hid (X3.out.below hb4)
 have E4:=Lib.hid (E3.out.below hb4)
 have B4:=Lib.hid (bel_trans B3.out hb4)
 clear R3 X3 E3 B3 hb4
 have Rc0:=R4.out.get 0 (.int .i64 0) rfl
 have Rc1:=R4.out.get 1 (.int .i64 0) rfl
 have Rc2:=R4.out.get 2 (.bool false) rfl
 have Rc3:=R4.out.get 3 (.bool false) rfl
 have Rc4:=R4.out.get 4 (.bool false) rfl
 have Rc5:=R4.out.get 5 (.bool false) rfl
 have Rc6:=R4.out.get 6 (.bool false) rfl
 have Rc7:=R4.out.get 7 (.int .i64 0) rfl
 have Rc8:=R4.out.get 8 (.int .i64 0) rfl
 have Rz0:=R4.out.free 0
 have Rz1:=R4.out.free 1
 have Rz2:=R4.out.free 2
 have Rz3:=R4.out.free 3
 have Rz4:=R4.out.free 4
 have Rz5:=R4.out.free 5
 have Rz6:=R4.out.free 6
 have Rz7:=R4.out.free 7
 have Rz8:=R4.out.free 8
 go_wp2
 refine bodyPost_ret (v:=.tuple #[.agg #[.int .i64 0,.int .i64 0,.bool false,.bool false,.bool false,.bool false,.bool false,.int .i64 0,.int .i64 0],.int .i64 0]) (by simp [results,Tryz.results314,go_sem,Rc0,Rc1,Rc2,Rc3,Rc4,Rc5,Rc6,Rc7,Rc8]) rfl ⟨rfl,?_⟩
 repeat' (first | with_reducible exact B4.out | with_reducible refine Below.setCell ?_ (by first | exact g0 | (simp;done)) _)
set_option maxRecDepth 100000 in
set_option maxHeartbeats 1600000 in
theorem of_yes (st lv:Int) (v:BitVec 64) (k f:Int) (r wr x a n:Bool) (s o:Int) (wd:BitVec 64) (w:World) (HS:Hid (∀ W,Calls Tryz.prog 324 #[.agg #[.int .i64 st,.int .i64 lv]] W fun e w'=>e=.returned (.bool true)∧w'=W.alloc (.cells #[.int .i64 st,.int .i64 lv] 376)))
  (HR:Hid (∀ W,Calls Tryz.prog 325 #[.agg #[.int .i64 st,.int .i64 lv],.int .u64 (u v)] W fun e w'=>e=.returned (.agg #[.int .i64 st,.int .i64 lv,.int .i64 k,.int .i64 f,.bool r,.bool wr,.bool x,.bool a,.bool n,.int .i64 s,.int .i64 o])∧Below W.heap.size W w'))
  (HM:Hid (∀ W,Calls Tryz.prog 326 #[.agg #[.int .i64 st,.int .i64 lv,.int .i64 k,.int .i64 f,.bool r,.bool wr,.bool x,.bool a,.bool n,.int .i64 s,.int .i64 o]] W fun e w'=>e=.returned (.bool true)∧Below W.heap.size W w'))
  (HW:Hid (∀ W,Calls Tryz.prog 327 #[.agg #[.int .i64 st,.int .i64 lv,.int .i64 k,.int .i64 f,.bool r,.bool wr,.bool x,.bool a,.bool n,.int .i64 s,.int .i64 o]] W fun e w'=>e=.returned (.int .u64 (u wd))∧Below W.heap.size W w')) (hq:(u wd != u v)=false) :
  Calls Tryz.prog 314 #[.int .i64 st,.int .i64 lv,.int .u64 (u v)] w fun e w'=>e=.returned (.tuple #[.agg #[.int .i64 k,.int .i64 f,.bool r,.bool wr,.bool x,.bool a,.bool n,.int .i64 s,.int .i64 o],.int .i64 0])∧Below w.heap.size w w':=by
 have R0:=Lib.hid (((BoxAt.new w z9 243).alloc (.cells #[.int .i64 st,.int .i64 lv] 376)).alloc (.cells #[.int .i64 st,.int .i64 lv] 376))
 have X0:=Lib.hid ((BoxAt.new (w.alloc (.cells z9 243)) #[.int .i64 st,.int .i64 lv] 376).alloc (.cells #[.int .i64 st,.int .i64 lv] 376))
 rw [show (w.alloc (.cells z9 243)).heap.size=w.heap.size+1 from by simp] at X0
 have B1:=Lib.hid (bel_alloc (bel_alloc (bel_alloc (Below.refl w.heap.size w) (.cells z9 243)) (.cells #[.int .i64 st,.int .i64 lv] 376)) (.cells #[.int .i64 st,.int .i64 lv] 376))
 go_enter Tryz.func314,Tryz.ntmps314
 go_wp2_with fail
 refine (HS.out _).mono ?_
 rintro e w0 ⟨rfl,rfl⟩
 go_wp2_with fail
 refine (HR.out _).mono ?_
 rintro e w2 ⟨rfl,hb2⟩
 have R2:=Lib.hid (R0.out.below hb2)
 have X2:=Lib.hid (X0.out.below hb2)
 have B2:=Lib.hid (bel_trans B1.out hb2)
 clear R0 X0 B1 hb2
 have hlt:=X2.out.lt
 have Xa:=Lib.hid (X2.out.alloc (.cells #[.int .i64 st,.int .i64 lv,.int .i64 k,.int .i64 f,.bool r,.bool wr,.bool x,.bool a,.bool n,.int .i64 s,.int .i64 o] 378))
 clear X2
 have Ra:=Lib.hid (R2.out.alloc (.cells #[.int .i64 st,.int .i64 lv,.int .i64 k,.int .i64 f,.bool r,.bool wr,.bool x,.bool a,.bool n,.int .i64 s,.int .i64 o] 378))
 clear R2
 have Ea:=Lib.hid (BoxAt.new w2 #[.int .i64 st,.int .i64 lv,.int .i64 k,.int .i64 f,.bool r,.bool wr,.bool x,.bool a,.bool n,.int .i64 s,.int .i64 o] 378)
 have Ba:=Lib.hid (bel_alloc B2.out (.cells #[.int .i64 st,.int .i64 lv,.int .i64 k,.int .i64 f,.bool r,.bool wr,.bool x,.bool a,.bool n,.int .i64 s,.int .i64 o] 378))
 clear B2
 have Ec0:=Ea.out.get 0 (.int .i64 st) rfl
 have Ec1:=Ea.out.get 1 (.int .i64 lv) rfl
 have Ec2:=Ea.out.get 2 (.int .i64 k) rfl
 have Ec3:=Ea.out.get 3 (.int .i64 f) rfl
 have Ec4:=Ea.out.get 4 (.bool r) rfl
 have Ec5:=Ea.out.get 5 (.bool wr) rfl
 have Ec6:=Ea.out.get 6 (.bool x) rfl
 have Ec7:=Ea.out.get 7 (.bool a) rfl
 have Ec8:=Ea.out.get 8 (.bool n) rfl
 have Ec9:=Ea.out.get 9 (.int .i64 s) rfl
 have Ec10:=Ea.out.get 10 (.int .i64 o) rfl
 go_wp2_with fail
 clear Ec0 Ec1 Ec2 Ec3 Ec4 Ec5 Ec6 Ec7 Ec8 Ec9 Ec10
 obtain ⟨W3,hW3⟩:∃ W3,W3=w2.alloc (.cells #[.int .i64 st,.int .i64 lv,.int .i64 k,.int .i64 f,.bool r,.bool wr,.bool x,.bool a,.bool n,.int .i64 s,.int .i64 o] 378):=⟨_,rfl⟩
 rw [← hW3] at Xa Ra Ea Ba ⊢
 obtain ⟨G,hG⟩:∃ G,G=w2.heap.size:=⟨_,rfl⟩
 rw [← hG] at Ea hlt ⊢
 clear hW3 hG
 have g0:w.heap.size≤G:=by omega
 have g1:G≠w.heap.size:=by omega
 have g2:w.heap.size≠G:=by omega
 clear hlt
 refine (HM.out _).mono ?_
 rintro e w3 ⟨rfl,hb3⟩
 have R3:=Lib.hid (Ra.out.below hb3)
 have X3:=Lib.hid (Xa.out.below hb3)
 have E3:=Lib.hid (Ea.out.below hb3)
 have B3:=Lib.hid (bel_trans Ba.out hb3)
 clear Ra Xa Ea Ba hb3
 have Ec0:=E3.out.get 0 (.int .i64 st) rfl
 have Ec1:=E3.out.get 1 (.int .i64 lv) rfl
 have Ec2:=E3.out.get 2 (.int .i64 k) rfl
 have Ec3:=E3.out.get 3 (.int .i64 f) rfl
 have Ec4:=E3.out.get 4 (.bool r) rfl
 have Ec5:=E3.out.get 5 (.bool wr) rfl
 have Ec6:=E3.out.get 6 (.bool x) rfl
 have Ec7:=E3.out.get 7 (.bool a) rfl
 have Ec8:=E3.out.get 8 (.bool n) rfl
 have Ec9:=E3.out.get 9 (.int .i64 s) rfl
 have Ec10:=E3.out.get 10 (.int .i64 o) rfl
 go_wp2_with fail
 clear Ec0 Ec1 Ec2 Ec3 Ec4 Ec5 Ec6 Ec7 Ec8 Ec9 Ec10
 refine (HW.out _).mono ?_
 rintro e w4 ⟨rfl,hb4⟩
 have R4:=Lib.hid (R3.out.below hb4)
 have X4:=Lib.hid (X3.out.below hb4)
 have E4:=Lib.hid (E3.out.below hb4)
 have B4:=Lib.hid (bel_trans B3.out hb4)
 clear R3 X3 E3 B3 hb4
 have Rc0:=R4.out.get 0 (.int .i64 0) rfl
 have Rc1:=R4.out.get 1 (.int .i64 0) rfl
 have Rc2:=R4.out.get 2 (.bool false) rfl
 have Rc3:=R4.out.get 3 (.bool false) rfl
 have Rc4:=R4.out.get 4 (.bool false) rfl
 have Rc5:=R4.out.get 5 (.bool false) rfl
 have Rc6:=R4.out.get 6 (.bool false) rfl
 have Rc7:=R4.out.get 7 (.int .i64 0) rfl
 have Rc8:=R4.out.get 8 (.int .i64 0) rfl
 have Rz0:=R4.out.free 0
 have Rz1:=R4.out.free 1
 have Rz2:=R4.out.free 2
 have Rz3:=R4.out.free 3
 have Rz4:=R4.out.free 4
 have Rz5:=R4.out.free 5
 have Rz6:=R4.out.free 6
 have Rz7:=R4.out.free 7
 have Rz8:=R4.out.free 8
 have Ec2:=E4.out.get 2 (.int .i64 k) rfl
 have Ec3:=E4.out.get 3 (.int .i64 f) rfl
 have Ec4:=E4.out.get 4 (.bool r) rfl
 have Ec5:=E4.out.get 5 (.bool wr) rfl
 have Ec6:=E4.out.get 6 (.bool x) rfl
 have Ec7:=E4.out.get 7 (.bool a) rfl
 have Ec8:=E4.out.get 8 (.bool n) rfl
 have Ec9:=E4.out.get 9 (.int .i64 s) rfl
 have Ec10:=E4.out.get 10 (.int .i64 o) rfl
 go_wp2
 refine bodyPost_ret (v:=.tuple #[.agg #[.int .i64 k,.int .i64 f,.bool r,.bool wr,.bool x,.bool a,.bool n,.int .i64 s,.int .i64 o],.int .i64 0]) (by simp [results,Tryz.results314,go_sem,Rc0,Rc1,Rc2,Rc3,Rc4,Rc5,Rc6,Rc7,Rc8]) rfl ⟨rfl,?_⟩
 repeat' (first | with_reducible exact B4.out | with_reducible refine Below.setCell ?_ (by first | exact g0 | (simp;done)) _)
theorem of_any (st lv:Int) (v:BitVec 64) (w:World) (hp:placeB st lv=true) :
  Calls Tryz.prog 314 #[.int .i64 st,.int .i64 lv,.int .u64 (u v)] w fun e w'=>e=.returned (.tuple #[dscV (ofD st lv v),.int .i64 0])∧Below w.heap.size w w':=by
 have HS:=fun W=>spot_mayBe st lv W
 rw [hp] at HS
 have HR:=fun W=>read_any st lv v W
 have hm:mayE st lv (readD st lv v)=mayD st lv (readD st lv v):=by unfold mayE;rw [hp];rfl
 unfold ofD
 obtain ⟨d,hd⟩:∃ d,readD st lv v=d:=⟨_,rfl⟩
 obtain ⟨k,f,r,wr,x,a,n,s,o⟩:=d
 rw [hd] at hm ⊢
 have HM:=fun W=>emayBe_any st lv k f r wr x a n s o W
 rw [hm] at HM
 have HW:=fun W=>eword_any st lv k f r wr x a n s o W
 rw [hd] at HR
 cases hmd:mayD st lv ⟨k,f,r,wr,x,a,n,s,o⟩
 ·rw [hmd] at HM
  rw [if_neg (by simp)]
  exact of_bad st lv v k f r wr x a n s o w (Lib.hid HS) (Lib.hid HR) (Lib.hid HM)
 ·rw [hmd] at HM
  by_cases hw:wordD st lv ⟨k,f,r,wr,x,a,n,s,o⟩=v
  ·rw [if_pos ⟨rfl,hw⟩]
   exact of_yes st lv v k f r wr x a n s o _ w (Lib.hid HS) (Lib.hid HR) (Lib.hid HM) (Lib.hid HW) (by rw [u_bne];simpa using hw)
  ·rw [if_neg (fun h=>hw h.2)]
   exact of_other st lv v k f r wr x a n s o _ w (Lib.hid HS) (Lib.hid HR) (Lib.hid HM) (Lib.hid HW) (by rw [u_bne];simpa using hw)
end Go.Proofs.YtlgpdbgingjpbaaGreat
