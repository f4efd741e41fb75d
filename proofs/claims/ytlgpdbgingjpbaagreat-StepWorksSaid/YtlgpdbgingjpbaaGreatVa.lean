/- The landed package tlb: small calls: contracts. -/
import Derived.Test.YtlgpdbgingjpbaaGreatBl
import Derived.Test.YtlgpdbgingjpbaaGreatVp
import Derived.Test.YtlgpdbgingjpbaaGreatSq
set_option linter.all false
namespace Go
theorem andN9:∀ a b:Fin 64,bits .andNot .i64 (64 * (a.val:Int)+b.val) 511=(64 * (a.val:Int)+b.val) - (64 * (a.val:Int)+b.val) % 512:=by decide +kernel
theorem andN6:∀ a b:Fin 64,bits .andNot .i64 (64 * (a.val:Int)+b.val) 63=(64 * (a.val:Int)+b.val) - (64 * (a.val:Int)+b.val) % 64:=by decide +kernel
theorem andN3:∀ a b:Fin 64,bits .andNot .i64 (64 * (a.val:Int)+b.val) 7=(64 * (a.val:Int)+b.val) - (64 * (a.val:Int)+b.val) % 8:=by decide +kernel
theorem page_cut (p:Int) (h0:0≤p) (h1:p≤4095):bits .andNot .i64 p 511=p - p % 512∧bits .andNot .i64 p 63=p - p % 64∧bits .andNot .i64 p 7=p - p % 8:=by
 obtain ⟨a,b,ha⟩:∃ a b:Fin 64,p=64 * (a.val:Int)+b.val:=⟨⟨(p / 64).toNat,by omega⟩,⟨(p % 64).toNat,by omega⟩,by simp only;omega⟩
 subst ha
 exact ⟨andN9 a b,andN6 a b,andN3 a b⟩
end Go
namespace Go.Proofs.YtlgpdbgingjpbaaGreat
open Go.ChangeShapes Go.WideShapes Go.ChangeAt Go.RowKit Go.Deep
theorem tup_any (p m:Int) (w:World) :
  Calls Tryz.prog 224 #[.int .i64 p,.int .i64 m] w fun e w'=>e=.returned (.bool (numB p m))∧w=w':=by
 go_enter Tryz.func224,Tryz.ntmps224
 go_wp2
 all_goals
  go_ret
  refine ⟨ret_bool ?_,rfl⟩
  unfold numB
  rw [Bool.eq_iff_iff]
  simp
  omega
def foE (e:Ety) (p:Int):Int:=if e.k=3 then abvP e.lv p else p
theorem tfo_1 (vm sp:Int) (al:Bool) (pg fr mi:Int) (r wr x a n:Bool) (s p:Int) (hp:0≤p∧p≤4095) (w:World) :
  Calls Tryz.prog 270 #[.agg #[.int .i64 3,.int .i64 vm,.int .i64 sp,.bool al,.int .i64 pg,.int .i64 1,.int .i64 fr,.int .i64 mi,.bool r,.bool wr,.bool x,.bool a,.bool n,.int .i64 s],.int .i64 p] w fun q w'=>q=.returned (.int .i64 (abvP 1 p))∧Below w.heap.size w w':=by
 have hc:bits .andNot .i64 p 511=abvP 1 p:=(page_cut p hp.1 hp.2).1
 exact calls_ex mixedT [] (.r 1 [a1 2 0 0] (.r 3 [a1 3 0 5,(8,.rw (fun _=>.int .i64 (bits .andNot .i64 p 511)) (fun _=>.int .i64 (abvP 1 p)))] (.fin [] (fun _=>.int .i64 (abvP 1 p)) []))) Tryz.func270 rfl (Fits.nil w) (⟨fun _=>by rw [hc],fun _ _ h _=>⟨rfl,h.below⟩⟩) rfl (fun _=>by kernel_rfl)
theorem tfo_2 (vm sp:Int) (al:Bool) (pg fr mi:Int) (r wr x a n:Bool) (s p:Int) (hp:0≤p∧p≤4095) (w:World) :
  Calls Tryz.prog 270 #[.agg #[.int .i64 3,.int .i64 vm,.int .i64 sp,.bool al,.int .i64 pg,.int .i64 2,.int .i64 fr,.int .i64 mi,.bool r,.bool wr,.bool x,.bool a,.bool n,.int .i64 s],.int .i64 p] w fun q w'=>q=.returned (.int .i64 (abvP 2 p))∧Below w.heap.size w w':=by
 have hc:bits .andNot .i64 p 63=abvP 2 p:=(page_cut p hp.1 hp.2).2.1
 exact calls_ex mixedT [] (.r 1 [a1 2 0 0] (.r 3 [a1 3 0 5,(8,.rw (fun _=>.int .i64 (bits .andNot .i64 p 63)) (fun _=>.int .i64 (abvP 2 p)))] (.fin [] (fun _=>.int .i64 (abvP 2 p)) []))) Tryz.func270 rfl (Fits.nil w) (⟨fun _=>by rw [hc],fun _ _ h _=>⟨rfl,h.below⟩⟩) rfl (fun _=>by kernel_rfl)
theorem tfo_3 (vm sp:Int) (al:Bool) (pg fr mi:Int) (r wr x a n:Bool) (s p:Int) (hp:0≤p∧p≤4095) (w:World) :
  Calls Tryz.prog 270 #[.agg #[.int .i64 3,.int .i64 vm,.int .i64 sp,.bool al,.int .i64 pg,.int .i64 3,.int .i64 fr,.int .i64 mi,.bool r,.bool wr,.bool x,.bool a,.bool n,.int .i64 s],.int .i64 p] w fun q w'=>q=.returned (.int .i64 (abvP 3 p))∧Below w.heap.size w w':=by
 have hc:bits .andNot .i64 p 7=abvP 3 p:=(page_cut p hp.1 hp.2).2.2
 exact calls_ex mixedT [] (.r 1 [a1 2 0 0] (.r 3 [a1 3 0 5,(8,.rw (fun _=>.int .i64 (bits .andNot .i64 p 7)) (fun _=>.int .i64 (abvP 3 p)))] (.fin [] (fun _=>.int .i64 (abvP 3 p)) []))) Tryz.func270 rfl (Fits.nil w) (⟨fun _=>by rw [hc],fun _ _ h _=>⟨rfl,h.below⟩⟩) rfl (fun _=>by kernel_rfl)
theorem tfo_no (k vm sp:Int) (al:Bool) (pg lv fr mi:Int) (r wr x a n:Bool) (s p:Int) (hk:(k != 3)=true) (w:World) :
  Calls Tryz.prog 270 #[.agg #[.int .i64 k,.int .i64 vm,.int .i64 sp,.bool al,.int .i64 pg,.int .i64 lv,.int .i64 fr,.int .i64 mi,.bool r,.bool wr,.bool x,.bool a,.bool n,.int .i64 s],.int .i64 p] w fun q w'=>q=.returned (.int .i64 p)∧Below w.heap.size w w':=by
 exact calls_ex mixedT [] (.r 1 [a1 2 0 0,(3,.rw (fun _=>.bool (k != 3)) (fun _=>.bool true))] (.fin [] (fun _=>.int .i64 p) [])) Tryz.func270 rfl (Fits.nil w) (⟨fun _=>congrArg Value.bool hk,fun _ _ h _=>⟨rfl,h.below⟩⟩) rfl (fun _=>by kernel_rfl)
theorem tfo_any (e:Ety) (p:Int) (w:World) (h:e.k=3→(1≤e.lv∧e.lv≤3)) (hp:0≤p∧p≤4095) :
  Calls Tryz.prog 270 #[entV e,.int .i64 p] w fun q w'=>q=.returned (.int .i64 (foE e p))∧Below w.heap.size w w':=by
 obtain ⟨k,vm,sp,al,pg,lv,fr,mi,⟨r,wr,x,a,n,s⟩⟩:=e
 unfold foE
 simp only at h ⊢
 by_cases hk:k=3
 ·rw [if_pos hk]
  have hl:=h hk
  have h3:lv=1∨lv=2∨lv=3:=by omega
  subst hk
  rcases h3 with rfl | rfl | rfl
  ·exact tfo_1 vm sp al pg fr mi r wr x a n s p hp w
  ·exact tfo_2 vm sp al pg fr mi r wr x a n s p hp w
  ·exact tfo_3 vm sp al pg fr mi r wr x a n s p hp w
 ·rw [if_neg hk]
  exact tfo_no k vm sp al pg lv fr mi r wr x a n s p (by simp [hk]) w
def numE (e:Ety):Bool:=numB e.vm 15&&(numB e.sp 15&&(numB e.pg 4095&&(numB e.fr 4095&&(numB e.mi 4095&&decide (e.t.s=0)))))
def kindE (e:Ety):Bool:=if e.k=1 then decide (e.lv=0) else if e.k=2 then decide (e.sp=0)&&(e.al&&(decide (e.lv=0)&&(decide (e.mi=0)&&!e.t.n)))
  else if e.k=3 then decide (1≤e.lv)&&(decide (e.lv≤3)&&(decide (abvP e.lv e.pg=e.pg)&&(decide (e.mi=0)&&eqA e.t atr0))) else false
theorem mayEn_two (e:Ety):mayEn e=(numE e&&kindE e):=by
 unfold mayEn numE kindE
 simp only [Bool.and_assoc]
theorem numE_pg {e:Ety} (h:numE e=true):0≤e.pg∧e.pg≤4095:=by
 unfold numE at h
 simp only [Bool.and_eq_true] at h
 exact numB_iff.1 h.2.2.1
theorem tnum_any (e:Ety) (w:World) :
  Calls Tryz.prog 221 #[entV e] w fun q w'=>q=.returned (.bool (numE e))∧Below w.heap.size w w':=by
 obtain ⟨k,vm,sp,al,pg,lv,fr,mi,⟨r,wr,x,a,n,s⟩⟩:=e
 obtain ⟨q0,hq0⟩:∃ b,(numB vm 15)=b:=⟨_,rfl⟩
 obtain ⟨q1,hq1⟩:∃ b,(numB sp 15)=b:=⟨_,rfl⟩
 obtain ⟨q2,hq2⟩:∃ b,(numB pg 4095)=b:=⟨_,rfl⟩
 obtain ⟨q3,hq3⟩:∃ b,(numB fr 4095)=b:=⟨_,rfl⟩
 obtain ⟨q4,hq4⟩:∃ b,(numB mi 4095)=b:=⟨_,rfl⟩
 obtain ⟨q5,hq5⟩:∃ b,(s==0)=b:=⟨_,rfl⟩
 exact calls_ex mixedT [] (.r 1 [a1 2 0 1,(3,.call 224 (fun _=>[.int .i64 vm,.int .i64 15]) (fun _=>.bool q0)),a1 7 0 2,(8,.call 224 (fun _=>[.int .i64 sp,.int .i64 15]) (fun _=>.bool q1)),a1 13 0 4,(14,.call 224 (fun _=>[.int .i64 pg,.int .i64 4095]) (fun _=>.bool q2)),a1 19 0 6,(20,.call 224 (fun _=>[.int .i64 fr,.int .i64 4095]) (fun _=>.bool q3)),a1 25 0 7,(26,.call 224 (fun _=>[.int .i64 mi,.int .i64 4095]) (fun _=>.bool q4)),a1 32 0 13,(33,.rw (fun _=>.bool (s==0)) (fun _=>.bool q5))] (.fin [] (fun _=>.bool (((((q0&&q1)&&q2)&&q3)&&q4)&&q5)) [])) Tryz.func221 rfl (Fits.nil w) (⟨fun _ W _=>(below_same (tup_any _ _ W)).mono fun _ _ hJ=>⟨hJ.1.trans (by rw [hq0]),hJ.2⟩,fun _ W _=>(below_same (tup_any _ _ W)).mono fun _ _ hJ=>⟨hJ.1.trans (by rw [hq1]),hJ.2⟩,fun _ W _=>(below_same (tup_any _ _ W)).mono fun _ _ hJ=>⟨hJ.1.trans (by rw [hq2]),hJ.2⟩,fun _ W _=>(below_same (tup_any _ _ W)).mono fun _ _ hJ=>⟨hJ.1.trans (by rw [hq3]),hJ.2⟩,fun _ W _=>(below_same (tup_any _ _ W)).mono fun _ _ hJ=>⟨hJ.1.trans (by rw [hq4]),hJ.2⟩,fun _=>congrArg Value.bool hq5,fun _ _ h _=>⟨ret_bool (by subst hq0 hq1 hq2 hq3 hq4 hq5;first | rfl | simp only [numE,Bool.and_assoc,beq_int] | simp [numE]),h.below⟩⟩) rfl (fun _=>by cases q0;(kernel_rfl);(cases q1;(kernel_rfl);(cases q2;(kernel_rfl);(cases q3;(kernel_rfl);(cases q4<;>kernel_rfl)))))
theorem tdue_any (i:Inv) (w:World) :
  Calls Tryz.prog 187 #[invV i] w fun q w'=>q=.returned (.bool (mayIn i))∧Below w.heap.size w w':=by
 obtain ⟨k,vm,sp,pg⟩:=i
 obtain ⟨q0,hq0⟩:∃ b,(decide ((k:Int)≥1))=b:=⟨_,rfl⟩
 obtain ⟨q1,hq1⟩:∃ b,(decide ((k:Int)≤6))=b:=⟨_,rfl⟩
 obtain ⟨q2,hq2⟩:∃ b,(numB vm 15)=b:=⟨_,rfl⟩
 obtain ⟨q3,hq3⟩:∃ b,(numB sp 15)=b:=⟨_,rfl⟩
 obtain ⟨q4,hq4⟩:∃ b,(numB pg 4095)=b:=⟨_,rfl⟩
 exact calls_ex mixedT [] (.r 1 [a1 2 0 0,(3,.rw (fun _=>.bool (decide ((k:Int)≥1))) (fun _=>.bool q0)),a1 7 0 0,(8,.rw (fun _=>.bool (decide ((k:Int)≤6))) (fun _=>.bool q1)),a1 13 0 1,(14,.call 224 (fun _=>[.int .i64 vm,.int .i64 15]) (fun _=>.bool q2)),a1 19 0 2,(20,.call 224 (fun _=>[.int .i64 sp,.int .i64 15]) (fun _=>.bool q3)),a1 25 0 3,(26,.call 224 (fun _=>[.int .i64 pg,.int .i64 4095]) (fun _=>.bool q4))] (.fin [] (fun _=>.bool ((((q0&&q1)&&q2)&&q3)&&q4)) [])) Tryz.func187 rfl (Fits.nil w) (⟨fun _=>congrArg Value.bool hq0,fun _=>congrArg Value.bool hq1,fun _ W _=>(below_same (tup_any _ _ W)).mono fun _ _ hJ=>⟨hJ.1.trans (by rw [hq2]),hJ.2⟩,fun _ W _=>(below_same (tup_any _ _ W)).mono fun _ _ hJ=>⟨hJ.1.trans (by rw [hq3]),hJ.2⟩,fun _ W _=>(below_same (tup_any _ _ W)).mono fun _ _ hJ=>⟨hJ.1.trans (by rw [hq4]),hJ.2⟩,fun _ _ h _=>⟨ret_bool (by subst hq0 hq1 hq2 hq3 hq4;first | rfl | simp only [mayIn,Bool.and_assoc,beq_int] | simp [mayIn]),h.below⟩⟩) rfl (fun _=>by cases q0;(kernel_rfl);(cases q1;(kernel_rfl);(cases q2;(kernel_rfl);(cases q3<;>kernel_rfl))))
def mayPl (vm sp pg:Int):Bool:=numB vm 15&&(numB sp 15&&numB pg 4095)
theorem tplace_any (vm sp pg:Int) (w:World) :
  Calls Tryz.prog 307 #[.agg #[.int .i64 vm,.int .i64 sp,.int .i64 pg]] w fun q w'=>q=.returned (.bool (mayPl vm sp pg))∧Below w.heap.size w w':=by
 obtain ⟨q0,hq0⟩:∃ b,(numB vm 15)=b:=⟨_,rfl⟩
 obtain ⟨q1,hq1⟩:∃ b,(numB sp 15)=b:=⟨_,rfl⟩
 obtain ⟨q2,hq2⟩:∃ b,(numB pg 4095)=b:=⟨_,rfl⟩
 exact calls_ex mixedT [] (.r 1 [a1 1 0 0,(2,.call 224 (fun _=>[.int .i64 vm,.int .i64 15]) (fun _=>.bool q0)),a1 5 0 1,(6,.call 224 (fun _=>[.int .i64 sp,.int .i64 15]) (fun _=>.bool q1)),a1 10 0 2,(11,.call 224 (fun _=>[.int .i64 pg,.int .i64 4095]) (fun _=>.bool q2))] (.fin [] (fun _=>.bool ((q0&&q1)&&q2)) [])) Tryz.func307 rfl (Fits.nil w) (⟨fun _ W _=>(below_same (tup_any _ _ W)).mono fun _ _ hJ=>⟨hJ.1.trans (by rw [hq0]),hJ.2⟩,fun _ W _=>(below_same (tup_any _ _ W)).mono fun _ _ hJ=>⟨hJ.1.trans (by rw [hq1]),hJ.2⟩,fun _ W _=>(below_same (tup_any _ _ W)).mono fun _ _ hJ=>⟨hJ.1.trans (by rw [hq2]),hJ.2⟩,fun _ _ h _=>⟨ret_bool (by subst hq0 hq1 hq2;first | rfl | simp only [mayPl,Bool.and_assoc,beq_int] | simp [mayPl]),h.below⟩⟩) rfl (fun _=>by cases q0;(kernel_rfl);(cases q1<;>kernel_rfl))
theorem task_any (vm sp pg kd acc:Int) (w:World) :
  Calls Tryz.prog 292 #[.agg #[.int .i64 vm,.int .i64 sp,.int .i64 pg,.int .i64 kd,.int .i64 acc]] w fun q w'=>q=.returned (.bool (numB acc 2&&mayPl vm sp pg))∧Below w.heap.size w w':=by
 obtain ⟨q0,hq0⟩:∃ b,(numB acc 2&&mayA ⟨false,false,false,false,false,0⟩ acc)=b:=⟨_,rfl⟩
 obtain ⟨q1,hq1⟩:∃ b,((if numB acc 2=true then (0:Int) else 1)==0)=b:=⟨_,rfl⟩
 obtain ⟨q2,hq2⟩:∃ b,(mayPl vm sp pg)=b:=⟨_,rfl⟩
 exact calls_ex mixedT [] (.r 1 [a1 2 0 4,(3,.call 229 (fun _=>[.agg #[.bool false,.bool false,.bool false,.bool false,.bool false,.int .i64 0],.int .i64 acc]) (fun _=>.tuple #[.bool q0,.int .i64 (if numB acc 2=true then (0:Int) else 1)]))] (.r 2 [(1,.rw (fun _=>.bool ((if numB acc 2=true then (0:Int) else 1)==0)) (fun _=>.bool q1)),aN 4 0 0 3,(5,.call 307 (fun _=>[.agg #[.int .i64 vm,.int .i64 sp,.int .i64 pg]]) (fun _=>.bool q2))] (.fin [] (fun _=>.bool (q1&&q2)) []))) Tryz.func292 rfl (Fits.nil w) (⟨fun _ W _=>(mayP_any ⟨false,false,false,false,false,0⟩ acc W).mono fun _ _ hJ=>⟨hJ.1.trans (by rw [hq0]),hJ.2⟩,fun _=>congrArg Value.bool hq1,fun _ W _=>(tplace_any vm sp pg W).mono fun _ _ hJ=>⟨hJ.1.trans (by rw [hq2]),hJ.2⟩,fun _ _ h _=>⟨ret_bool (by subst hq0 hq1 hq2;cases numB acc 2<;>first | rfl | simp only [Bool.and_assoc,beq_int] | simp []),h.below⟩⟩) rfl (fun _=>by cases q1<;>kernel_rfl)
theorem tmid_any (e:Ety) (w:World) :
  Calls Tryz.prog 247 #[entV e] w fun q w'=>q=.returned (.bool (!e.t.n&&eqE e ⟨2,e.vm,0,true,e.pg,0,e.fr,0,e.t⟩))∧Below w.heap.size w w':=by
 obtain ⟨k,vm,sp,al,pg,lv,fr,mi,⟨r,wr,x,a,n,s⟩⟩:=e
 exact calls_ex mixedT [] (.r 1 [a1 3 0 12,aN 7 0 0 14,a1 10 0 1,a1 13 0 4,a1 16 0 6,aN 19 0 8 6,(21,.opc (.binOp .eql 121 (.tmp 10) (.tmp 23) 121) (fun _=>[.agg #[.int .i64 k,.int .i64 vm,.int .i64 sp,.bool al,.int .i64 pg,.int .i64 lv,.int .i64 fr,.int .i64 mi,.bool r,.bool wr,.bool x,.bool a,.bool n,.int .i64 s],.agg #[.int .i64 2,.int .i64 vm,.int .i64 0,.bool true,.int .i64 pg,.int .i64 0,.int .i64 fr,.int .i64 0,.bool r,.bool wr,.bool x,.bool a,.bool n,.int .i64 s]]) (fun _=>.bool (eqE ⟨k,vm,sp,al,pg,lv,fr,mi,⟨r,wr,x,a,n,s⟩⟩ ⟨2,vm,0,true,pg,0,fr,0,⟨r,wr,x,a,n,s⟩⟩)) [] [] 0 [])] (.fin [] (fun _=>.bool ((!n)&&(eqE ⟨k,vm,sp,al,pg,lv,fr,mi,⟨r,wr,x,a,n,s⟩⟩ ⟨2,vm,0,true,pg,0,fr,0,⟨r,wr,x,a,n,s⟩⟩))) [])) Tryz.func247 rfl (Fits.nil w) (⟨fun _ W _ _ ho hx hk _=>opc_two ho hx hk (by kernel_rfl) (eql_ent _ _ _ _ _ _ _ _ _ _ _ _ _ _ _ _ _ _ _ _ _ _ _ _ _ _ _ _ W),fun _ _ h _=>⟨ret_bool (by first | rfl | simp only [Bool.and_assoc,beq_int] | simp []),h.below⟩⟩) rfl (fun _=>by cases n<;>kernel_rfl)
theorem twalk_any (e:Ety) (hp:0≤e.pg∧e.pg≤4095) (w:World) :
  Calls Tryz.prog 248 #[entV e] w fun q w'=>q=.returned (.bool (decide (1≤e.lv)&&(decide (e.lv≤3)&&eqE e ⟨3,e.vm,e.sp,e.al,foE e e.pg,e.lv,e.fr,0,atr0⟩)))∧Below w.heap.size w w':=by
 obtain ⟨k,vm,sp,al,pg,lv,fr,mi,⟨r,wr,x,a,n,s⟩⟩:=e
 rcases Bool.eq_false_or_eq_true (decide ((lv:Int)≥1)) with hG0 | hG0
 ·rcases Bool.eq_false_or_eq_true (decide ((lv:Int)≤3)) with hG1 | hG1
  ·exact calls_ex mixedT [] (.r 1 [a1 2 0 5,(3,.rw (fun _=>.bool (decide ((lv:Int)≥1))) (fun _=>.bool true)),a1 7 0 5,(8,.rw (fun _=>.bool (decide ((lv:Int)≤3))) (fun _=>.bool true)),aN 12 0 0 14,a1 15 0 1,a1 18 0 2,a1 21 0 3,aN 22 0 0 14,a1 25 0 4,(26,.call 270 (fun _=>[.agg #[.int .i64 k,.int .i64 vm,.int .i64 sp,.bool al,.int .i64 pg,.int .i64 lv,.int .i64 fr,.int .i64 mi,.bool r,.bool wr,.bool x,.bool a,.bool n,.int .i64 s],.int .i64 pg]) (fun _=>.int .i64 (foE ⟨k,vm,sp,al,pg,lv,fr,mi,⟨r,wr,x,a,n,s⟩⟩ pg))),a1 29 0 5,a1 32 0 6,(34,.opc (.binOp .eql 121 (.tmp 15) (.tmp 36) 121) (fun _=>[.agg #[.int .i64 k,.int .i64 vm,.int .i64 sp,.bool al,.int .i64 pg,.int .i64 lv,.int .i64 fr,.int .i64 mi,.bool r,.bool wr,.bool x,.bool a,.bool n,.int .i64 s],.agg #[.int .i64 3,.int .i64 vm,.int .i64 sp,.bool al,.int .i64 (foE ⟨k,vm,sp,al,pg,lv,fr,mi,⟨r,wr,x,a,n,s⟩⟩ pg),.int .i64 lv,.int .i64 fr,.int .i64 0,.bool false,.bool false,.bool false,.bool false,.bool false,.int .i64 0]]) (fun _=>.bool (eqE ⟨k,vm,sp,al,pg,lv,fr,mi,⟨r,wr,x,a,n,s⟩⟩ ⟨3,vm,sp,al,foE ⟨k,vm,sp,al,pg,lv,fr,mi,⟨r,wr,x,a,n,s⟩⟩ pg,lv,fr,0,⟨false,false,false,false,false,0⟩⟩)) [] [] 0 [])] (.fin [] (fun _=>.bool (eqE ⟨k,vm,sp,al,pg,lv,fr,mi,⟨r,wr,x,a,n,s⟩⟩ ⟨3,vm,sp,al,foE ⟨k,vm,sp,al,pg,lv,fr,mi,⟨r,wr,x,a,n,s⟩⟩ pg,lv,fr,0,⟨false,false,false,false,false,0⟩⟩)) [])) Tryz.func248 rfl (Fits.nil w) (⟨fun _=>congrArg Value.bool hG0,fun _=>congrArg Value.bool hG1,fun _ W _=>tfo_any ⟨k,vm,sp,al,pg,lv,fr,mi,⟨r,wr,x,a,n,s⟩⟩ pg W (fun _=>⟨of_decide_eq_true hG0,of_decide_eq_true hG1⟩) hp,fun _ W _ _ ho hx hk _=>opc_two ho hx hk (by kernel_rfl) (eql_ent _ _ _ _ _ _ _ _ _ _ _ _ _ _ _ _ _ _ _ _ _ _ _ _ _ _ _ _ W),fun _ _ h _=>⟨ret_bool (by simp [atr0,hG0,hG1]),h.below⟩⟩) rfl (fun _=>by kernel_rfl)
  ·exact calls_ex mixedT [] (.r 1 [a1 2 0 5,(3,.rw (fun _=>.bool (decide ((lv:Int)≥1))) (fun _=>.bool true)),a1 7 0 5,(8,.rw (fun _=>.bool (decide ((lv:Int)≤3))) (fun _=>.bool false))] (.fin [] (fun _=>.bool false) [])) Tryz.func248 rfl (Fits.nil w) (⟨fun _=>congrArg Value.bool hG0,fun _=>congrArg Value.bool hG1,fun _ _ h _=>⟨ret_bool (by simp [atr0,hG0,hG1]),h.below⟩⟩) rfl (fun _=>by kernel_rfl)
 ·exact calls_ex mixedT [] (.r 1 [a1 2 0 5,(3,.rw (fun _=>.bool (decide ((lv:Int)≥1))) (fun _=>.bool false))] (.fin [] (fun _=>.bool false) [])) Tryz.func248 rfl (Fits.nil w) (⟨fun _=>congrArg Value.bool hG0,fun _ _ h _=>⟨ret_bool (by simp [atr0,hG0]),h.below⟩⟩) rfl (fun _=>by kernel_rfl)
theorem mid_kind (e:Ety) (h:e.k=2):(!e.t.n&&eqE e ⟨2,e.vm,0,true,e.pg,0,e.fr,0,e.t⟩)=(decide (e.sp=0)&&(e.al&&(decide (e.lv=0)&&(decide (e.mi=0)&&!e.t.n)))):=by
 obtain ⟨k,vm,sp,al,pg,lv,fr,mi,t⟩:=e
 simp only at h ⊢
 subst h
 rw [Bool.eq_iff_iff]
 simp [eqE]
 constructor
 ·rintro ⟨h1,h2,h3,h4,h5⟩
  exact ⟨h2,h3,h4,h5,h1⟩
 ·rintro ⟨h2,h3,h4,h5,h1⟩
  exact ⟨h1,h2,h3,h4,h5⟩
theorem walk_kind (e:Ety) (h:e.k=3):eqE e ⟨3,e.vm,e.sp,e.al,foE e e.pg,e.lv,e.fr,0,atr0⟩=(decide (abvP e.lv e.pg=e.pg)&&(decide (e.mi=0)&&eqA e.t atr0)):=by
 obtain ⟨k,vm,sp,al,pg,lv,fr,mi,t⟩:=e
 simp only at h ⊢
 subst h
 rw [Bool.eq_iff_iff]
 simp [eqE,eqA,foE]
 intro _ _
 exact eq_comm
theorem kind_two (e:Ety):kindE e=(if e.k=1 then decide (e.lv=0) else if e.k=2 then (!e.t.n&&eqE e ⟨2,e.vm,0,true,e.pg,0,e.fr,0,e.t⟩) else if e.k=3 then (decide (1≤e.lv)&&(decide (e.lv≤3)&&eqE e ⟨3,e.vm,e.sp,e.al,foE e e.pg,e.lv,e.fr,0,atr0⟩)) else false):=by
 unfold kindE
 split
 ·rfl
 ·split
  ·rename_i h
   rw [mid_kind e h]
  ·split
   ·rename_i h
    rw [walk_kind e h]
   ·rfl
theorem tkind_any (e:Ety) (h:numE e=true) (w:World) :
  Calls Tryz.prog 222 #[entV e] w fun q w'=>q=.returned (.bool (kindE e))∧Below w.heap.size w w':=by
 obtain ⟨k,vm,sp,al,pg,lv,fr,mi,⟨r,wr,x,a,n,s⟩⟩:=e
 obtain ⟨q0,hq0⟩:∃ b,(k==1)=b:=⟨_,rfl⟩
 obtain ⟨q1,hq1⟩:∃ b,(lv==0)=b:=⟨_,rfl⟩
 obtain ⟨q2,hq2⟩:∃ b,(k==2)=b:=⟨_,rfl⟩
 obtain ⟨q3,hq3⟩:∃ b,(!n&&eqE ⟨k,vm,sp,al,pg,lv,fr,mi,⟨r,wr,x,a,n,s⟩⟩ ⟨2,vm,0,true,pg,0,fr,0,⟨r,wr,x,a,n,s⟩⟩)=b:=⟨_,rfl⟩
 obtain ⟨q4,hq4⟩:∃ b,(k==3)=b:=⟨_,rfl⟩
 obtain ⟨q5,hq5⟩:∃ b,(decide (1≤lv)&&(decide (lv≤3)&&eqE ⟨k,vm,sp,al,pg,lv,fr,mi,⟨r,wr,x,a,n,s⟩⟩ ⟨3,vm,sp,al,foE ⟨k,vm,sp,al,pg,lv,fr,mi,⟨r,wr,x,a,n,s⟩⟩ pg,lv,fr,0,atr0⟩))=b:=⟨_,rfl⟩
 exact calls_ex mixedT [] (.r 1 [a1 2 0 0] (.r 2 [(0,.rw (fun _=>.bool (k==1)) (fun _=>.bool q0))] (.split (q0) (.r 3 [a1 2 0 5,(3,.rw (fun _=>.bool (lv==0)) (fun _=>.bool q1))] (.fin [] (fun _=>.bool q1) [])) (.r 4 [(0,.rw (fun _=>.bool (k==2)) (fun _=>.bool q2))] (.split (q2) (.r 5 [aN 0 0 0 14,(1,.call 247 (fun _=>[.agg #[.int .i64 k,.int .i64 vm,.int .i64 sp,.bool al,.int .i64 pg,.int .i64 lv,.int .i64 fr,.int .i64 mi,.bool r,.bool wr,.bool x,.bool a,.bool n,.int .i64 s]]) (fun _=>.bool q3))] (.fin [] (fun _=>.bool q3) [])) (.r 6 [(0,.rw (fun _=>.bool (k==3)) (fun _=>.bool q4))] (.split (q4) (.r 7 [aN 0 0 0 14,(1,.call 248 (fun _=>[.agg #[.int .i64 k,.int .i64 vm,.int .i64 sp,.bool al,.int .i64 pg,.int .i64 lv,.int .i64 fr,.int .i64 mi,.bool r,.bool wr,.bool x,.bool a,.bool n,.int .i64 s]]) (fun _=>.bool q5))] (.fin [] (fun _=>.bool q5) [])) (.fin [] (fun _=>.bool false) [])))))))) Tryz.func222 rfl (Fits.nil w) (⟨fun _=>congrArg Value.bool hq0,fun hS4=>⟨fun _=>congrArg Value.bool hq1,fun _ _ hK _=>⟨ret_bool (by rw [kind_two];subst hq0 hq1 hq2 hq3 hq4 hq5;first | (simp_all;done) | simp_all [beq_int]),hK.below⟩⟩,fun hS4=>⟨fun _=>congrArg Value.bool hq2,fun hS5=>⟨fun _ W _=>(tmid_any ⟨k,vm,sp,al,pg,lv,fr,mi,⟨r,wr,x,a,n,s⟩⟩ W).mono fun _ _ hJ=>⟨hJ.1.trans (by rw [hq3]),hJ.2⟩,fun _ _ hK _=>⟨ret_bool (by rw [kind_two];subst hq0 hq1 hq2 hq3 hq4 hq5;first | (simp_all;done) | simp_all [beq_int]),hK.below⟩⟩,fun hS5=>⟨fun _=>congrArg Value.bool hq4,fun hS6=>⟨fun _ W _=>(twalk_any ⟨k,vm,sp,al,pg,lv,fr,mi,⟨r,wr,x,a,n,s⟩⟩ (numE_pg h) W).mono fun _ _ hJ=>⟨hJ.1.trans (by rw [hq5]),hJ.2⟩,fun _ _ hK _=>⟨ret_bool (by rw [kind_two];subst hq0 hq1 hq2 hq3 hq4 hq5;first | (simp_all;done) | simp_all [beq_int]),hK.below⟩⟩,fun hS6=>fun _ _ hK _=>⟨ret_bool (by rw [kind_two];subst hq0 hq1 hq2 hq3 hq4 hq5;first | (simp_all;done) | simp_all [beq_int]),hK.below⟩⟩⟩⟩) rfl (fun _=>by kernel_rfl)
theorem trec_any (e:Ety) (w:World) :
  Calls Tryz.prog 185 #[entV e] w fun q w'=>q=.returned (.bool (mayEn e))∧Below w.heap.size w w':=by
 obtain ⟨k,vm,sp,al,pg,lv,fr,mi,⟨r,wr,x,a,n,s⟩⟩:=e
 rcases Bool.eq_false_or_eq_true (numE ⟨k,vm,sp,al,pg,lv,fr,mi,⟨r,wr,x,a,n,s⟩⟩) with hG0 | hG0
 ·obtain ⟨q0,hq0⟩:∃ b,(kindE ⟨k,vm,sp,al,pg,lv,fr,mi,⟨r,wr,x,a,n,s⟩⟩)=b:=⟨_,rfl⟩
  exact calls_ex mixedT [] (.r 1 [aN 0 0 0 14,(1,.call 221 (fun _=>[.agg #[.int .i64 k,.int .i64 vm,.int .i64 sp,.bool al,.int .i64 pg,.int .i64 lv,.int .i64 fr,.int .i64 mi,.bool r,.bool wr,.bool x,.bool a,.bool n,.int .i64 s]]) (fun _=>.bool true)),aN 3 0 0 14,(4,.call 222 (fun _=>[.agg #[.int .i64 k,.int .i64 vm,.int .i64 sp,.bool al,.int .i64 pg,.int .i64 lv,.int .i64 fr,.int .i64 mi,.bool r,.bool wr,.bool x,.bool a,.bool n,.int .i64 s]]) (fun _=>.bool q0))] (.fin [] (fun _=>.bool q0) [])) Tryz.func185 rfl (Fits.nil w) (⟨fun _ W _=>(tnum_any ⟨k,vm,sp,al,pg,lv,fr,mi,⟨r,wr,x,a,n,s⟩⟩ W).mono fun _ _ hJ=>⟨hJ.1.trans (by rw [hG0]),hJ.2⟩,fun _ W _=>(tkind_any ⟨k,vm,sp,al,pg,lv,fr,mi,⟨r,wr,x,a,n,s⟩⟩ hG0 W).mono fun _ _ hJ=>⟨hJ.1.trans (by rw [hq0]),hJ.2⟩,fun _ _ h _=>⟨ret_bool (by subst hq0;simp [mayEn_two,hG0]),h.below⟩⟩) rfl (fun _=>by kernel_rfl)
 ·exact calls_ex mixedT [] (.r 1 [aN 0 0 0 14,(1,.call 221 (fun _=>[.agg #[.int .i64 k,.int .i64 vm,.int .i64 sp,.bool al,.int .i64 pg,.int .i64 lv,.int .i64 fr,.int .i64 mi,.bool r,.bool wr,.bool x,.bool a,.bool n,.int .i64 s]]) (fun _=>.bool false))] (.fin [] (fun _=>.bool false) [])) Tryz.func185 rfl (Fits.nil w) (⟨fun _ W _=>(tnum_any ⟨k,vm,sp,al,pg,lv,fr,mi,⟨r,wr,x,a,n,s⟩⟩ W).mono fun _ _ hJ=>⟨hJ.1.trans (by rw [hG0]),hJ.2⟩,fun _ _ h _=>⟨ret_bool (by simp [mayEn_two,hG0]),h.below⟩⟩) rfl (fun _=>by kernel_rfl)
def isE (vm sp pg:Int) (e:Ety):Bool:=decide (e.vm=vm)&&((e.al||decide (e.sp=sp))&&decide (e.pg=foE e pg))
def fitsE (kd vm sp pg acc:Int) (e:Ety):Bool:=decide (e.k=kd)&&(isE vm sp pg e&&mayA e.t acc)
theorem tisof_any (e:Ety) (pvm psp ppg:Int) (h:e.k=3→(1≤e.lv∧e.lv≤3)) (hp:0≤ppg∧ppg≤4095) (w:World) :
  Calls Tryz.prog 308 #[entV e,.agg #[.int .i64 pvm,.int .i64 psp,.int .i64 ppg]] w fun q w'=>q=.returned (.bool (isE pvm psp ppg e))∧Below w.heap.size w w':=by
 obtain ⟨k,vm,sp,al,pg,lv,fr,mi,⟨r,wr,x,a,n,s⟩⟩:=e
 obtain ⟨q0,hq0⟩:∃ b,(vm==pvm)=b:=⟨_,rfl⟩
 obtain ⟨q1,hq1⟩:∃ b,(sp==psp)=b:=⟨_,rfl⟩
 obtain ⟨q2,hq2⟩:∃ b,(pg==(foE ⟨k,vm,sp,al,pg,lv,fr,mi,⟨r,wr,x,a,n,s⟩⟩ ppg))=b:=⟨_,rfl⟩
 exact calls_ex mixedT [] (.r 1 [a1 2 0 1,a1 4 1 0,(5,.rw (fun _=>.bool (vm==pvm)) (fun _=>.bool q0)),a1 9 0 3,a1 13 0 2,a1 15 1 1,(16,.rw (fun _=>.bool (sp==psp)) (fun _=>.bool q1)),a1 22 0 4,aN 23 0 0 14,a1 25 1 2,(26,.call 270 (fun _=>[.agg #[.int .i64 k,.int .i64 vm,.int .i64 sp,.bool al,.int .i64 pg,.int .i64 lv,.int .i64 fr,.int .i64 mi,.bool r,.bool wr,.bool x,.bool a,.bool n,.int .i64 s],.int .i64 ppg]) (fun _=>.int .i64 (foE ⟨k,vm,sp,al,pg,lv,fr,mi,⟨r,wr,x,a,n,s⟩⟩ ppg))),(27,.rw (fun _=>.bool (pg==(foE ⟨k,vm,sp,al,pg,lv,fr,mi,⟨r,wr,x,a,n,s⟩⟩ ppg))) (fun _=>.bool q2))] (.fin [] (fun _=>.bool ((q0&&(al||q1))&&q2)) [])) Tryz.func308 rfl (Fits.nil w) (⟨fun _=>congrArg Value.bool hq0,fun _=>congrArg Value.bool hq1,fun _ W _=>tfo_any ⟨k,vm,sp,al,pg,lv,fr,mi,⟨r,wr,x,a,n,s⟩⟩ ppg W h hp,fun _=>congrArg Value.bool hq2,fun _ _ h _=>⟨ret_bool (by subst hq0 hq1 hq2;first | rfl | simp only [isE,Bool.and_assoc,beq_int] | simp [isE]),h.below⟩⟩) rfl (fun _=>by cases q0;(kernel_rfl);(cases al;(cases q1<;>kernel_rfl);(kernel_rfl)))
theorem tfits_any (e:Ety) (kd vm' sp' pg' acc:Int) (h:e.k=3→(1≤e.lv∧e.lv≤3)) (hp:0≤pg'∧pg'≤4095) (ha:numB acc 2=true) (w:World) :
  Calls Tryz.prog 293 #[entV e,.agg #[.int .i64 vm',.int .i64 sp',.int .i64 pg',.int .i64 kd,.int .i64 acc]] w fun q w'=>q=.returned (.bool (fitsE kd vm' sp' pg' acc e))∧Below w.heap.size w w':=by
 obtain ⟨k,vm,sp,al,pg,lv,fr,mi,⟨r,wr,x,a,n,s⟩⟩:=e
 obtain ⟨q0,hq0⟩:∃ b,(mayA ⟨r,wr,x,a,n,s⟩ acc)=b:=⟨_,rfl⟩
 obtain ⟨q1,hq1⟩:∃ b,(k==kd)=b:=⟨_,rfl⟩
 obtain ⟨q2,hq2⟩:∃ b,(isE vm' sp' pg' ⟨k,vm,sp,al,pg,lv,fr,mi,⟨r,wr,x,a,n,s⟩⟩)=b:=⟨_,rfl⟩
 exact calls_ex mixedT [] (.r 1 [aN 2 0 8 6,a1 4 1 4,(5,.call 229 (fun _=>[.agg #[.bool r,.bool wr,.bool x,.bool a,.bool n,.int .i64 s],.int .i64 acc]) (fun _=>.tuple #[.bool q0,.int .i64 0]))] (.r 2 [a1 2 0 0,a1 4 1 3,(5,.rw (fun _=>.bool (k==kd)) (fun _=>.bool q1)),aN 7 0 0 14,aN 9 1 0 3,(10,.call 308 (fun _=>[.agg #[.int .i64 k,.int .i64 vm,.int .i64 sp,.bool al,.int .i64 pg,.int .i64 lv,.int .i64 fr,.int .i64 mi,.bool r,.bool wr,.bool x,.bool a,.bool n,.int .i64 s],.agg #[.int .i64 vm',.int .i64 sp',.int .i64 pg']]) (fun _=>.bool q2))] (.fin [] (fun _=>.bool ((q1&&q2)&&q0)) []))) Tryz.func293 rfl (Fits.nil w) (⟨fun _ W _=>(mayP_any ⟨r,wr,x,a,n,s⟩ acc W).mono fun _ _ hJ=>⟨hJ.1.trans (by rw [ha];simp [hq0]),hJ.2⟩,fun _=>congrArg Value.bool hq1,fun _ W _=>(tisof_any ⟨k,vm,sp,al,pg,lv,fr,mi,⟨r,wr,x,a,n,s⟩⟩ vm' sp' pg' h hp W).mono fun _ _ hJ=>⟨hJ.1.trans (by rw [hq2]),hJ.2⟩,fun _ _ h _=>⟨ret_bool (by subst hq0 hq1 hq2;first | rfl | simp only [fitsE,Bool.and_assoc,beq_int] | simp [fitsE]),h.below⟩⟩) rfl (fun _=>by cases q1;(kernel_rfl);(cases q2<;>kernel_rfl))
end Go.Proofs.YtlgpdbgingjpbaaGreat
