/- Stage 13: package regs: what its calls answer. -/
import Derived.Test.YtlgpdbgingjpbaaGreatVp
import Derived.Test.YtlgpdbgingjpbaaGreatSq
set_option linter.all false
namespace Go.Proofs.YtlgpdbgingjpbaaGreat
open Go.ChangeShapes Go.WideShapes Go.ChangeAt Go.RowKit Go.Deep
def coreL (r:Rg):List Value:=[.int .u64 (u r.tt),.int .u64 (u r.sc),.int .u64 (u r.vb),.int .u64 (u r.el),.int .u64 (u r.es),.int .u64 (u r.fa),.int .u64 (u r.x0),.int .u64 (u r.x1),.int .u64 (u r.x2),.int .u64 (u r.x3),.int .u64 (u r.x4),.int .u64 (u r.x5),.int .u64 (u r.x6),.int .u64 (u r.x7),.int .u64 (u r.pc)]
theorem rgOf_any (r:Rg) (w:World) :
  Calls Tryz.prog 123 #[regV r] w (BoxEnd 210 (coreL r) w):=by
 exact calls_ex mixedT [] (.r 1 [aN 1 0 9 6,aN 4 0 0 8,a1 6 0 8] (.fin [] (fun E=>.pointer (some ⟨E.b 1,0,none⟩)) [(1,(fun E=>⟨E.b 1,0,210,coreL r,.own⟩))])) Tryz.func123 rfl (Fits.nil w) (fun E W hk hp=>⟨_,rfl,((hp.1 _ (List.mem_singleton.2 rfl)).2.1.resolve_left (by simp)),(hp.1 _ (List.mem_singleton.2 rfl)).2.2,hk.below⟩) rfl (fun _=>by kernel_rfl)
theorem rgRegs_any (r:Rg) (b:Nat) (w:World) (hb:w.heap[b]?=some (.cells (coreL r).toArray 210)) :
  Calls Tryz.prog 125 #[.pointer (some ⟨b,0,none⟩)] w fun e w'=>e=.returned (regV r)∧Below w.heap.size w w':=by
 exact calls_ex mixedT [⟨b,0,210,coreL r,.row⟩] (.r 1 [aN 3 0 6 8,a1 7 0 14,aN 12 0 0 6,aN 14 1 0 15] (.fin [(1,0,15)] (fun _=>regV r) [])) Tryz.func125 rfl (Fits.boxR hb) (fun _ _ h _=>⟨rfl,h.below⟩) rfl (fun _=>by kernel_rfl)
theorem rgNote_any (r:Rg) (x y z:BitVec 64) (b:Nat) (w:World) (hb:w.heap[b]?=some (.cells (coreL r).toArray 210)) :
  Calls Tryz.prog 202 #[.pointer (some ⟨b,0,none⟩),.int .u64 (u x),.int .u64 (u y),.int .u64 (u z)] w fun e w'=>e=.returned (.tuple #[])∧Fits [b] w [⟨b,0,210,coreL ({ r with el:=x,es:=y,fa:=z }),.own⟩] w':=by
 exact calls_ex mixedT [⟨b,0,210,coreL r,.own⟩] (.r 0 [a1 9 0 3,a1 13 0 4,a1 17 0 5] (.fin [] (fun _=>.tuple #[]) [(0,(fun _=>⟨b,0,210,[.int .u64 (u r.tt),.int .u64 (u r.sc),.int .u64 (u r.vb),.int .u64 (u x),.int .u64 (u y),.int .u64 (u z),.int .u64 (u r.x0),.int .u64 (u r.x1),.int .u64 (u r.x2),.int .u64 (u r.x3),.int .u64 (u r.x4),.int .u64 (u r.x5),.int .u64 (u r.x6),.int .u64 (u r.x7),.int .u64 (u r.pc)],.own⟩))])) Tryz.func202 rfl (Fits.box hb) (fun E W hk hp=>⟨rfl,hp.2 rfl⟩) rfl (fun _=>by kernel_rfl)
theorem rgTrap_any (r:Rg) (x y:BitVec 64) (b:Nat) (w:World) (hb:w.heap[b]?=some (.cells (coreL r).toArray 210)) :
  Calls Tryz.prog 159 #[.pointer (some ⟨b,0,none⟩),.int .u64 (u x),.int .u64 (u y)] w fun e w'=>e=.returned (.tuple #[])∧Fits [b] w [⟨b,0,210,coreL (trapR r x y),.own⟩] w':=by
 exact calls_ex mixedT [⟨b,0,210,coreL r,.own⟩] (.r 0 [a1 6 0 14,(9,.callg 202 (fun _=>[.pointer (some ⟨b,0,none⟩),.int .u64 (u r.pc),.int .u64 (u x),.int .u64 (u y)]) (fun _=>.tuple #[]) [(0,(fun _=>⟨b,0,210,coreL r,.own⟩))] [(0,(fun _=>⟨b,0,210,[.int .u64 (u r.tt),.int .u64 (u r.sc),.int .u64 (u r.vb),.int .u64 (u r.pc),.int .u64 (u x),.int .u64 (u y),.int .u64 (u r.x0),.int .u64 (u r.x1),.int .u64 (u r.x2),.int .u64 (u r.x3),.int .u64 (u r.x4),.int .u64 (u r.x5),.int .u64 (u r.x6),.int .u64 (u r.x7),.int .u64 (u r.pc)],.own⟩))] 1 [])] (.r 1 [a1 6 0 2,a1 9 0 14] (.fin [] (fun _=>.tuple #[]) [(0,(fun _=>⟨b,0,210,[.int .u64 (u r.tt),.int .u64 (u r.sc),.int .u64 (u r.vb),.int .u64 (u r.pc),.int .u64 (u x),.int .u64 (u y),.int .u64 (u r.x0),.int .u64 (u r.x1),.int .u64 (u r.x2),.int .u64 (u r.x3),.int .u64 (u r.x4),.int .u64 (u r.x5),.int .u64 (u r.x6),.int .u64 (u r.x7),.int .u64 (u r.vb)],.own⟩))]))) Tryz.func159 rfl (Fits.box hb) (⟨fun E W hk hp=>(rgNote_any r r.pc x y _ W (hp.1 _ (List.mem_singleton.2 rfl)).2.2).mono fun e w' h=>GPost.box1 hk hp.1 rfl rfl (fun _ h=>nomatch h) h.1 h.2,fun E W hk hp=>⟨rfl,hp.2 rfl⟩⟩) rfl (fun _=>by kernel_rfl)
theorem rgPut_any (v:BitVec 64) (w:World) :
  Calls Tryz.prog 192 #[.int .u64 (u v),.agg #[.int .i64 0,.int .i64 1,.int .u64 0]] w fun e w'=>e=.returned (.tuple #[.int .u64 (u (v&&& ~~~1#64)),.int .i64 0])∧Below w.heap.size w w':=by
 have hr:layR (fun _=>(⟨0,1,0#64⟩:Fld)) 1=(1#64,0#64,0):=by decide
 have ha:bits .andNot .u64 (u v) 1=u (v&&& ~~~1#64):=by rw [show (1:Int)=u 1#64 from by decide];exact u_andNot v 1#64
 have ho:bits .or .u64 (u (v&&& ~~~1#64)) 0=u (v&&& ~~~1#64):=by rw [show (0:Int)=u 0#64 from by decide,u_or];simp
 have HL:∀ (b:Nat) (W:World),W.heap[b]?=some (.cells #[.int .i64 0,.int .i64 1,.int .u64 0] 140)→Calls Tryz.prog 188 #[.slice (some ⟨b,0,none⟩) 1 1] W fun e w'=>e=.returned (.tuple #[.int .u64 1,.int .u64 0,.int .i64 0])∧Below W.heap.size W w':=fun b W hb=>by
  have hB:BoxAt W b #[.int .i64 0,.int .i64 1,.int .u64 (u 0#64)] 140:=⟨hb⟩
  have:=lay_any (some ⟨b,0,none⟩) 1 1 (fun _=>⟨0,1,0#64⟩) W (by decide) (fun j hj=>⟨b,0,rfl,by
   obtain rfl:j=0:=by omega
   exact ⟨hB.lt,hB.get 0 _ rfl,hB.get 1 _ rfl,hB.get 2 _ rfl,by decide,by decide,by decide,by decide⟩⟩)
  rw [hr] at this
  exact this
 exact calls_ex mixedT [] (.r 1 [aN 0 0 0 3,(2,.callg 188 (fun E=>[.slice (some ⟨E.b 1,0,none⟩) 1 1]) (fun _=>.tuple #[.int .u64 1,.int .u64 0,.int .i64 0]) [(1,(fun E=>⟨E.b 1,0,140,[.int .i64 0,.int .i64 1,.int .u64 0],.own⟩))] [] 2 [])] (.r 4 [(2,.rw (fun _=>.int .u64 (bits .andNot .u64 (u v) 1)) (fun _=>.int .u64 (u (v&&& ~~~1#64)))),(4,.rw (fun _=>.int .u64 (bits .or .u64 (u (v&&& ~~~1#64)) 0)) (fun _=>.int .u64 (u (v&&& ~~~1#64))))] (.fin [] (fun _=>.tuple #[.int .u64 (u (v&&& ~~~1#64)),.int .i64 0]) []))) Tryz.func192 rfl (Fits.nil w) (⟨fun E W hk hp=>(HL _ W (hp.1 _ (List.mem_singleton.2 rfl)).2.2).mono fun e w' h=>GPost.quiet hk h,fun _=>by rw [ha],fun _=>by rw [ho],fun _ _ h _=>⟨rfl,h.below⟩⟩) rfl (fun _=>by kernel_rfl)
theorem rg0Get_any (v:BitVec 64) (w:World) :
  Calls Tryz.prog 165 #[.int .u64 (u v),.int .i64 0,.int .i64 1] w fun e w'=>e=.returned (.tuple #[.int .u64 (u (v&&& 1#64)),.int .i64 0])∧Below w.heap.size w w':=
 (get_yes v 0 1 w (by decide)).mono fun e w' h=>by
  obtain ⟨he,hw⟩:=h
  refine ⟨?_,?_⟩
  ·rw [he,show msk 1=1#64 from by decide]
   simp
  ·rw [hw]
   exact (bel_alloc (bel_alloc (bel_alloc (Below.refl _ _) _) _) _).drew
theorem rg0Flag (v:BitVec 64):(u (v&&& 1#64)==1)=flagW v 0:=by
 have h1:u (v&&& 1#64)=getN v 0 1:=by unfold getN;rw [show msk 1=1#64 from by decide];simp
 rw [h1]
 exact beq_int _ _
theorem rgRoot_any (r:Rg) (b:Nat) (w:World) (hb:w.heap[b]?=some (.cells (coreL r).toArray 210)) :
  Calls Tryz.prog 149 #[.pointer (some ⟨b,0,none⟩)] w fun e w'=>e=.returned (rtV (oneR r))∧Below w.heap.size w w':=by
 obtain ⟨z,hz⟩:∃ z:Int,(if isT (r.tt&&& ~~~1#64) then 0 else 9)=z:=⟨_,rfl⟩
 have HO:=fun W=>rOf_any (r.tt&&& ~~~1#64) W _ rfl _ rfl z hz
 have HG:=fun W=>rg0Get_any r.sc W
 have hf:=rg0Flag r.sc
 exact calls_ex mixedT [⟨b,0,210,coreL r,.row⟩] (.r 1 [a1 4 0 0,(6,.call 192 (fun _=>[.int .u64 (u r.tt),.agg #[.int .i64 0,.int .i64 1,.int .u64 0]]) (fun _=>.tuple #[.int .u64 (u (r.tt&&& ~~~1#64)),.int .i64 0]))] (.r 2 [a1 4 0 1,(5,.call 165 (fun _=>[.int .u64 (u r.sc),.int .i64 0,.int .i64 1]) (fun _=>.tuple #[.int .u64 (u (r.sc&&& 1#64)),.int .i64 0]))] (.r 3 [(1,.call 193 (fun _=>[.int .u64 (u (r.tt&&& ~~~1#64))]) (fun _=>.tuple #[.agg #[.bool (ofT (r.tt&&& ~~~1#64)).o,.int .i64 (ofT (r.tt&&& ~~~1#64)).f,.int .i64 (ofT (r.tt&&& ~~~1#64)).t],.int .i64 z])),aN 6 2 0 3] (.r 4 [(1,.rw (fun _=>.bool ((u (r.sc&&& 1#64))==1)) (fun _=>.bool (flagW r.sc 0))),a1 3 2 0] (.r 5 [aN 0 2 0 3,aN 1 1 0 3] (.fin [(1,0,3)] (fun _=>.agg #[.bool (flagW r.sc 0),.int .i64 (ofT (r.tt&&& ~~~1#64)).f,.int .i64 (ofT (r.tt&&& ~~~1#64)).t]) [])))))) Tryz.func149 rfl (Fits.boxR hb) (⟨fun _ W _=>rgPut_any r.tt W,fun _ W _=>HG W,fun _ W _=>HO W,fun _=>by rw [hf],fun _ _ h _=>⟨rfl,h.below⟩⟩) rfl (fun _=>by kernel_rfl)
def farQ (p:BitVec 64) (L:Nat→Int):Nat→BitVec 64
 | 0=>p
 | k+1=>farQ p L k+4#64 * BitVec.ofInt 64 (L k)
theorem nums_keep {w W:World} {f:Option Addr} {l b:Nat} {X:Nat→Int} (h:NumsAt w f l X) (hk:Keep [b] w W) (hne:0 < l→∀ g,f=some g→g.block≠b):NumsAt W f l X:=fun j hj=>by
 obtain ⟨b1,o1,rfl,hc⟩:=h j hj
 have hlt:=cell_block hc
 exact ⟨b1,o1,rfl,(World.cell?_of_block (w:=w) (a:=⟨b1,o1+j,none⟩) (hk.block b1 hlt (by simpa using hne (by omega) _ rfl))).trans hc⟩
theorem farP_eq (p:BitVec 64) (L:Nat→Int):∀ k,farP p L k=farQ (p+4#64) L k
 | 0=>rfl
 | k+1=>by rw [farP,farQ,farP_eq p L k]
theorem rgMove_loop (r:Rg) (f:Option Addr) (l c b:Nat) (X:Nat→Int) {w0 W:World} {a:Act} {R:Ending→World→Prop} (hl:l≤1000000) (hX:NumsAt w0 f l X) (hne:0 < l→∀ g,f=some g→g.block≠b)
  (hT:Has Tryz.f162.ntmps ([(0,.pointer (some ⟨b,0,none⟩)),(6,.slice f l c),(7,.int .i64 l),(8,.int .i64 0)]) a) (hF:Fits [b] w0 [⟨b,0,210,coreL r,.own⟩] W) :
  (nthLoop Tryz.f162 0).wp Tryz.prog (fun e a w=>(e=.exit 0∧Has Tryz.f162.ntmps [] a∧Fits [b] w0 [⟨b,0,210,coreL ({ r with pc:=farQ r.pc X l }),.own⟩] w)∨(e=.ret∧bodyPost Tryz.prog Tryz.f162 R .ret a w)) a W:=by
 rw [show nthLoop Tryz.f162 0=.loop (bodyOf (nthLoop Tryz.f162 0)) from by kernel_rfl]
 refine wp_loop_ex (fun (j:Nat) a w=>j≤l∧Has Tryz.f162.ntmps ([(0,.pointer (some ⟨b,0,none⟩)),(6,.slice f l c),(7,.int .i64 l),(8,.int .i64 (j:Nat))]) a∧Fits [b] w0 [⟨b,0,210,coreL ({ r with pc:=farQ r.pc X j }),.own⟩] w) (fun j=>l - j) 0 ⟨Nat.zero_le _,hT,hF⟩ fun j a w hI=>?_
 clear hT hF
 obtain ⟨hj,hT,hF⟩:=hI
 by_cases hlt:j < l
 ·have hd:decide ((j:Int) < l)=true:=decide_eq_true (by omega)
  have hjw:IntKind.i64.wrap ((j:Int)+1)=((j+1:Nat):Int):=(IntWalk.i64_in _ (by omega)).trans (by omega)
  have hcv:IntKind.u64.wrap (X j)=u (BitVec.ofInt 64 (X j)):=u_conv _
  have hmu:IntKind.u64.wrap (4 * u (BitVec.ofInt 64 (X j)))=u (4#64 * BitVec.ofInt 64 (X j)):=by rw [show (4:Int)=u 4#64 from by decide];exact u_mul _ _
  have had:IntKind.u64.wrap (u (farQ r.pc X j)+u (4#64 * BitVec.ofInt 64 (X j)))=u (farQ r.pc X (j+1)):=u_add _ _
  obtain ⟨b1,o1,rfl,hc⟩:=hX j hlt
  have hb1:b1≠b:=hne (by omega) _ rfl
  have hlt0:b1 < w0.heap.size:=cell_block hc
  have hR:=hF.row (b:=b1) (o:=o1+j) (t:=3) (cs:=[.int .i64 (X j)]) (Nat.lt_of_lt_of_le hlt0 hF.keep.size) (fun i v hi=>by
   cases i with
   | zero=>
    obtain rfl:=Option.some.inj hi
    exact (World.cell?_of_block (w:=w0) (a:=⟨b1,o1+j,none⟩) (hF.keep.block b1 hlt0 (by simpa using hb1))).trans hc
   | succ i=>simp at hi) (fun i x hi=>by
   cases i with
   | zero=>
    obtain rfl:(⟨b,0,210,coreL ({ r with pc:=farQ r.pc X j }),.own⟩:Bx)=x:=by simpa using hi
    exact fun h=>hb1 (Option.some.inj h).symm
   | succ i=>simp at hi)
  exact wp_ex mixedT Tryz.f162 [(0,.pointer (some ⟨b,0,none⟩)),(6,.slice (some ⟨b1,o1,none⟩) l c),(7,.int .i64 l),(8,.int .i64 j)] [⟨b,0,210,coreL ({ r with pc:=farQ r.pc X j }),.own⟩,⟨b1,o1+j,3,[.int .i64 (X j)],.row⟩] (.r 1 [(0,.rw (fun _=>.bool (decide ((j:Int) < l))) (fun _=>.bool true))] (.r 2 [(0,.ix 44 (fun _=>.slice (some ⟨b1,o1,none⟩) l c) (fun _=>.int .i64 j) (fun _=>.pointer (some ⟨b1,o1+j,none⟩))),a1 1 1 0] (.r 3 [a1 3 0 14,(5,.rw (fun _=>.int .u64 (IntKind.u64.wrap (X j))) (fun _=>.int .u64 (u (BitVec.ofInt 64 (X j))))),(6,.rw (fun _=>.int .u64 (IntKind.u64.wrap (4 * (u (BitVec.ofInt 64 (X j)))))) (fun _=>.int .u64 (u (4#64 * BitVec.ofInt 64 (X j))))),(7,.rw (fun _=>.int .u64 (IntKind.u64.wrap ((u (farQ r.pc X j))+(u (4#64 * BitVec.ofInt 64 (X j)))))) (fun _=>.int .u64 (u (farQ r.pc X (j+1))))),a1 10 0 14] (.r 4 [(0,.rw (fun _=>.int .i64 (IntKind.i64.wrap (j+1))) (fun _=>.int .i64 ((j+1:Nat):Int)))] (.out none (fun _=>[(0,.pointer (some ⟨b,0,none⟩)),(6,.slice (some ⟨b1,o1,none⟩) l c),(7,.int .i64 l),(8,.int .i64 ((j+1:Nat):Int))]) [(0,(fun _=>⟨b,0,210,coreL ({ r with pc:=farQ r.pc X (j+1) }),.own⟩))]))))) hT hR (⟨fun _=>congrArg Value.bool hd,fun _ _=>(ix_row 44 3 b1 o1 l c j 1 Tryz.underlying44 (by kernel_rfl) hlt).trans (by rw [Nat.mul_one]),fun _=>by rw [hcv],fun _=>by rw [hmu],fun _=>by rw [had],fun _=>by rw [hjw],fun _ _ _ hT1 hF1=>⟨j+1,⟨by omega,hT1,hF1⟩,by omega⟩⟩) (J:=fun e a w=>match e with | .normal=>∃ j',(j'≤l∧Has Tryz.f162.ntmps ([(0,.pointer (some ⟨b,0,none⟩)),(6,.slice (some ⟨b1,o1,none⟩) l c),(7,.int .i64 l),(8,.int .i64 (j':Nat))]) a∧Fits [b] w0 [⟨b,0,210,coreL ({ r with pc:=farQ r.pc X j' }),.own⟩] w)∧l - j' < l - j | e=>(e=.exit 0∧Has Tryz.f162.ntmps [] a∧Fits [b] w0 [⟨b,0,210,coreL ({ r with pc:=farQ r.pc X l }),.own⟩] w)∨(e=.ret∧bodyPost Tryz.prog Tryz.f162 R .ret a w)) (fun _ _ h=>Or.inr ⟨rfl,h⟩) (fun e _ _ h=>by cases e<;>exact h) (fun _=>by kernel_rfl)
 ·have hd:decide ((j:Int) < l)=false:=decide_eq_false (by omega)
  have hjl:j=l:=by omega
  exact wp_ex mixedT Tryz.f162 [(0,.pointer (some ⟨b,0,none⟩)),(6,.slice f l c),(7,.int .i64 l),(8,.int .i64 j)] [⟨b,0,210,coreL ({ r with pc:=farQ r.pc X j }),.own⟩] (.r 1 [(0,.rw (fun _=>.bool (decide ((j:Int) < l))) (fun _=>.bool false))] (.out (some 0) (fun _=>[]) [(0,(fun _=>⟨b,0,210,coreL ({ r with pc:=farQ r.pc X j }),.own⟩))])) hT hF (⟨fun _=>congrArg Value.bool hd,fun _ _ _ hT1 hF1=>Or.inl ⟨rfl,by rw [hjl] at hF1;exact ⟨hT1,hF1⟩⟩⟩) (J:=fun e a w=>match e with | .normal=>∃ j',(j'≤l∧Has Tryz.f162.ntmps ([(0,.pointer (some ⟨b,0,none⟩)),(6,.slice f l c),(7,.int .i64 l),(8,.int .i64 (j':Nat))]) a∧Fits [b] w0 [⟨b,0,210,coreL ({ r with pc:=farQ r.pc X j' }),.own⟩] w)∧l - j' < l - j | e=>(e=.exit 0∧Has Tryz.f162.ntmps [] a∧Fits [b] w0 [⟨b,0,210,coreL ({ r with pc:=farQ r.pc X l }),.own⟩] w)∨(e=.ret∧bodyPost Tryz.prog Tryz.f162 R .ret a w)) (fun _ _ h=>Or.inr ⟨rfl,h⟩) (fun e _ _ h=>by cases e<;>exact h) (fun _=>by kernel_rfl)
theorem rgMove_any (r:Rg) (f:Option Addr) (l c:Nat) (X:Nat→Int) (hl:l≤1000000) (b:Nat) (w:World) (hb:w.heap[b]?=some (.cells (coreL r).toArray 210)) (hX:NumsAt w f l X) (hne:0 < l→∀ g,f=some g→g.block≠b) :
  Calls Tryz.prog 162 #[.pointer (some ⟨b,0,none⟩),.slice f l c] w fun e w'=>e=.returned (.tuple #[])∧Fits [b] w [⟨b,0,210,coreL ({ r with pc:=farQ r.pc X l }),.own⟩] w':=by
 exact calls_ex mixedT [⟨b,0,210,coreL r,.own⟩] (.cc (nthLoop Tryz.f162 0) (fun _=>[(0,.pointer (some ⟨b,0,none⟩)),(6,.slice f l c),(7,.int .i64 l),(8,.int .i64 0)]) [(0,(fun _=>⟨b,0,210,coreL r,.own⟩))] (some 0) (fun _=>[]) [(0,(fun _=>⟨b,0,210,[.int .u64 (u r.tt),.int .u64 (u r.sc),.int .u64 (u r.vb),.int .u64 (u r.el),.int .u64 (u r.es),.int .u64 (u r.fa),.int .u64 (u r.x0),.int .u64 (u r.x1),.int .u64 (u r.x2),.int .u64 (u r.x3),.int .u64 (u r.x4),.int .u64 (u r.x5),.int .u64 (u r.x6),.int .u64 (u r.x7),.int .u64 (u (farQ r.pc X l))],.own⟩))] 1 [] (.fin [] (fun _=>.tuple #[]) [(0,(fun _=>⟨b,0,210,[.int .u64 (u r.tt),.int .u64 (u r.sc),.int .u64 (u r.vb),.int .u64 (u r.el),.int .u64 (u r.es),.int .u64 (u r.fa),.int .u64 (u r.x0),.int .u64 (u r.x1),.int .u64 (u r.x2),.int .u64 (u r.x3),.int .u64 (u r.x4),.int .u64 (u r.x5),.int .u64 (u r.x6),.int .u64 (u r.x7),.int .u64 (u (farQ r.pc X l))],.own⟩))])) Tryz.func162 rfl (Fits.box hb) (⟨fun E a W hT hF=>wp_mono (rgMove_loop r f l c b X hl (nums_keep hX hF.keep hne) hne hT (Fits.box (hF.holds _ (List.mem_singleton.2 rfl)).2.2)) fun e a w h=>h.imp (fun h=>⟨h.1,CPost.box1 hF.keep hF.holds rfl rfl (fun _ h=>nomatch h) h.2.1 h.2.2⟩) id,fun E W hk hp=>⟨rfl,hp.2 rfl⟩⟩) rfl (fun _=>by kernel_rfl)
theorem one13 {W:World} {b:Nat} (h:W.heap[b]?=some (.cells #[.int .i64 1] 3)):NumsAt W (some ⟨b,0,none⟩) 1 (fun _=>1):=fun j hj=>by
 obtain rfl:j=0:=by omega
 have hB:BoxAt W b #[.int .i64 1] 3:=⟨h⟩
 exact ⟨b,0,rfl,hB.get 0 _ rfl⟩
theorem nums_ne {w:World} {f:Option Addr} {l b:Nat} {X:Nat→Int} {g:Addr} (h:NumsAt w f l X) (hl:0 < l) (hg:f=some g) (hb:b∈([]:List Nat)∨w.heap.size≤b):g.block≠b:=by
 obtain ⟨b1,o1,rfl,hc⟩:=h 0 hl
 obtain rfl:=Option.some.inj hg
 have:b1 < w.heap.size:=cell_block hc
 rcases hb with hb | hb
 ·cases hb
 ·show b1≠b
  omega
theorem regsOneC:RgOneC:=by
 intro r w
 exact calls_ex mixedT [] (.r 1 [aN 0 0 0 15,(1,.callg 123 (fun _=>[regV r]) (fun E=>.pointer (some ⟨E.b 2,0,none⟩)) [] [] 2 [fun E=>OwnB 210 (coreL r) (E.f 2) (E.b 2)]),(2,.own 2 210 (fun _=>coreL r) (fun E=>OwnB 210 (coreL r) (E.f 2) (E.b 2))),(4,.callg 149 (fun E=>[.pointer (some ⟨E.b 2,0,none⟩)]) (fun _=>.agg #[.bool (oneR r).o,.int .i64 (oneR r).f,.int .i64 (oneR r).t]) [(2,(fun E=>⟨E.b 2,0,210,coreL r,.own⟩))] [] 3 []),aN 5 1 0 3] (.fin [(1,0,3)] (fun _=>.agg #[.bool (oneR r).o,.int .i64 (oneR r).f,.int .i64 (oneR r).t]) [])) Tryz.func112 rfl (Fits.nil w) (⟨fun E W hk _=>(rgOf_any r W).mono fun e w' h=>h.post hk,fun _ _ h=>h,fun E W hk hp=>(rgRoot_any r _ W (hp.1 _ (List.mem_singleton.2 rfl)).2.2).mono fun e w' h=>GPost.quiet hk h,fun _ _ h _=>⟨rfl,h.below⟩⟩) rfl (fun _=>by kernel_rfl)
theorem regsTrapC:RgTrapC:=by
 intro r a b w
 exact calls_ex mixedT [] (.r 1 [aN 0 0 0 15,(1,.callg 123 (fun _=>[regV r]) (fun E=>.pointer (some ⟨E.b 2,0,none⟩)) [] [] 2 [fun E=>OwnB 210 (coreL r) (E.f 2) (E.b 2)]),(2,.own 2 210 (fun _=>coreL r) (fun E=>OwnB 210 (coreL r) (E.f 2) (E.b 2)))] (.r 2 [(3,.callg 159 (fun E=>[.pointer (some ⟨E.b 2,0,none⟩),.int .u64 (u a),.int .u64 (u b)]) (fun _=>.tuple #[]) [(2,(fun E=>⟨E.b 2,0,210,coreL r,.own⟩))] [(2,(fun E=>⟨E.b 2,0,210,[.int .u64 (u r.tt),.int .u64 (u r.sc),.int .u64 (u r.vb),.int .u64 (u r.pc),.int .u64 (u a),.int .u64 (u b),.int .u64 (u r.x0),.int .u64 (u r.x1),.int .u64 (u r.x2),.int .u64 (u r.x3),.int .u64 (u r.x4),.int .u64 (u r.x5),.int .u64 (u r.x6),.int .u64 (u r.x7),.int .u64 (u r.vb)],.own⟩))] 3 [])] (.r 3 [(1,.callg 125 (fun E=>[.pointer (some ⟨E.b 2,0,none⟩)]) (fun _=>.agg #[.int .u64 (u r.x0),.int .u64 (u r.x1),.int .u64 (u r.x2),.int .u64 (u r.x3),.int .u64 (u r.x4),.int .u64 (u r.x5),.int .u64 (u r.x6),.int .u64 (u r.x7),.int .u64 (u r.vb),.int .u64 (u r.tt),.int .u64 (u r.sc),.int .u64 (u r.vb),.int .u64 (u r.pc),.int .u64 (u a),.int .u64 (u b)]) [(2,(fun E=>⟨E.b 2,0,210,[.int .u64 (u r.tt),.int .u64 (u r.sc),.int .u64 (u r.vb),.int .u64 (u r.pc),.int .u64 (u a),.int .u64 (u b),.int .u64 (u r.x0),.int .u64 (u r.x1),.int .u64 (u r.x2),.int .u64 (u r.x3),.int .u64 (u r.x4),.int .u64 (u r.x5),.int .u64 (u r.x6),.int .u64 (u r.x7),.int .u64 (u r.vb)],.own⟩))] [] 3 []),aN 2 1 0 15] (.fin [(1,0,15)] (fun _=>.agg #[.int .u64 (u r.x0),.int .u64 (u r.x1),.int .u64 (u r.x2),.int .u64 (u r.x3),.int .u64 (u r.x4),.int .u64 (u r.x5),.int .u64 (u r.x6),.int .u64 (u r.x7),.int .u64 (u r.vb),.int .u64 (u r.tt),.int .u64 (u r.sc),.int .u64 (u r.vb),.int .u64 (u r.pc),.int .u64 (u a),.int .u64 (u b)]) [])))) Tryz.func117 rfl (Fits.nil w) (⟨fun E W hk _=>(rgOf_any r W).mono fun e w' h=>h.post hk,fun _ _ h=>h,fun E W hk hp=>(rgTrap_any r a b _ W (hp.1 _ (List.mem_singleton.2 rfl)).2.2).mono fun e w' h=>GPost.box1 hk hp.1 rfl rfl (fun _ h=>nomatch h) h.1 h.2,fun E W hk hp=>(rgRegs_any ⟨r.x0,r.x1,r.x2,r.x3,r.x4,r.x5,r.x6,r.x7,r.vb,r.tt,r.sc,r.vb,r.pc,a,b⟩ _ W (hp.1 _ (List.mem_singleton.2 rfl)).2.2).mono fun e w' h=>GPost.quiet hk h,fun _ _ h _=>⟨rfl,h.below⟩⟩) rfl (fun _=>by kernel_rfl)
theorem regsNextC:RgNextC:=by
 intro r f l c X w hX hl
 exact calls_ex mixedT [] (.r 1 [aN 0 0 0 15,(1,.callg 123 (fun _=>[regV r]) (fun E=>.pointer (some ⟨E.b 2,0,none⟩)) [] [] 2 [fun E=>OwnB 210 (coreL r) (E.f 2) (E.b 2)]),(2,.own 2 210 (fun _=>coreL r) (fun E=>OwnB 210 (coreL r) (E.f 2) (E.b 2)))] (.r 2 [(2,.callg 162 (fun E=>[.pointer (some ⟨E.b 2,0,none⟩),.slice (some ⟨E.b 3,0,none⟩) 1 1]) (fun _=>.tuple #[]) [(2,(fun E=>⟨E.b 2,0,210,coreL r,.own⟩)),(3,(fun E=>⟨E.b 3,0,3,[.int .i64 1],.own⟩))] [(2,(fun E=>⟨E.b 2,0,210,[.int .u64 (u r.tt),.int .u64 (u r.sc),.int .u64 (u r.vb),.int .u64 (u r.el),.int .u64 (u r.es),.int .u64 (u r.fa),.int .u64 (u r.x0),.int .u64 (u r.x1),.int .u64 (u r.x2),.int .u64 (u r.x3),.int .u64 (u r.x4),.int .u64 (u r.x5),.int .u64 (u r.x6),.int .u64 (u r.x7),.int .u64 (u (r.pc+4#64))],.own⟩))] 4 [])] (.r 3 [(2,.callg 162 (fun E=>[.pointer (some ⟨E.b 2,0,none⟩),.slice f l c]) (fun _=>.tuple #[]) [(2,(fun E=>⟨E.b 2,0,210,[.int .u64 (u r.tt),.int .u64 (u r.sc),.int .u64 (u r.vb),.int .u64 (u r.el),.int .u64 (u r.es),.int .u64 (u r.fa),.int .u64 (u r.x0),.int .u64 (u r.x1),.int .u64 (u r.x2),.int .u64 (u r.x3),.int .u64 (u r.x4),.int .u64 (u r.x5),.int .u64 (u r.x6),.int .u64 (u r.x7),.int .u64 (u (r.pc+4#64))],.own⟩))] [(2,(fun E=>⟨E.b 2,0,210,[.int .u64 (u r.tt),.int .u64 (u r.sc),.int .u64 (u r.vb),.int .u64 (u r.el),.int .u64 (u r.es),.int .u64 (u r.fa),.int .u64 (u r.x0),.int .u64 (u r.x1),.int .u64 (u r.x2),.int .u64 (u r.x3),.int .u64 (u r.x4),.int .u64 (u r.x5),.int .u64 (u r.x6),.int .u64 (u r.x7),.int .u64 (u (farP r.pc X l))],.own⟩))] 4 [])] (.r 4 [(1,.callg 125 (fun E=>[.pointer (some ⟨E.b 2,0,none⟩)]) (fun _=>.agg #[.int .u64 (u r.x0),.int .u64 (u r.x1),.int .u64 (u r.x2),.int .u64 (u r.x3),.int .u64 (u r.x4),.int .u64 (u r.x5),.int .u64 (u r.x6),.int .u64 (u r.x7),.int .u64 (u (farP r.pc X l)),.int .u64 (u r.tt),.int .u64 (u r.sc),.int .u64 (u r.vb),.int .u64 (u r.el),.int .u64 (u r.es),.int .u64 (u r.fa)]) [(2,(fun E=>⟨E.b 2,0,210,[.int .u64 (u r.tt),.int .u64 (u r.sc),.int .u64 (u r.vb),.int .u64 (u r.el),.int .u64 (u r.es),.int .u64 (u r.fa),.int .u64 (u r.x0),.int .u64 (u r.x1),.int .u64 (u r.x2),.int .u64 (u r.x3),.int .u64 (u r.x4),.int .u64 (u r.x5),.int .u64 (u r.x6),.int .u64 (u r.x7),.int .u64 (u (farP r.pc X l))],.own⟩))] [] 4 []),aN 2 1 0 15] (.fin [(1,0,15)] (fun _=>.agg #[.int .u64 (u r.x0),.int .u64 (u r.x1),.int .u64 (u r.x2),.int .u64 (u r.x3),.int .u64 (u r.x4),.int .u64 (u r.x5),.int .u64 (u r.x6),.int .u64 (u r.x7),.int .u64 (u (farP r.pc X l)),.int .u64 (u r.tt),.int .u64 (u r.sc),.int .u64 (u r.vb),.int .u64 (u r.el),.int .u64 (u r.es),.int .u64 (u r.fa)]) []))))) Tryz.func121 rfl (Fits.nil w) (⟨fun E W hk _=>(rgOf_any r W).mono fun e w' h=>h.post hk,fun _ _ h=>h,fun E W hk hp=>(rgMove_any r _ 1 1 (fun _=>1) (by decide) _ W (hp.1 _ (List.mem_cons_self ..)).2.2 (one13 (hp.1 _ (List.mem_cons_of_mem _ (List.mem_singleton.2 rfl))).2.2) (fun _ g hg=>by obtain rfl:=Option.some.inj hg;exact fun h=>(hp.2 rfl).ne 0 1 _ _ rfl rfl (by decide) _ rfl (congrArg some h))).mono fun e w' h=>GPost.box1 hk hp.1 rfl rfl (fun p hp' h=>by obtain rfl:=List.mem_singleton.1 hp';exact absurd h (by decide)) h.1 h.2,fun E W hk hp=>(rgMove_any { r with pc:=r.pc+4#64 } f l c X hl _ W (hp.1 _ (List.mem_singleton.2 rfl)).2.2 (hX.below hk.below) (fun hl0 g hg=>nums_ne hX hl0 hg (hp.1 _ (List.mem_singleton.2 rfl)).2.1)).mono fun e w' h=>GPost.box1 hk hp.1 rfl rfl (fun _ h=>nomatch h) h.1 (by have:=h.2;rw [farP_eq];exact this),fun E W hk hp=>(rgRegs_any ⟨r.x0,r.x1,r.x2,r.x3,r.x4,r.x5,r.x6,r.x7,(farP r.pc X l),r.tt,r.sc,r.vb,r.el,r.es,r.fa⟩ _ W (hp.1 _ (List.mem_singleton.2 rfl)).2.2).mono fun e w' h=>GPost.quiet hk h,fun _ _ h _=>⟨rfl,h.below⟩⟩) rfl (fun _=>by kernel_rfl)
end Go.Proofs.YtlgpdbgingjpbaaGreat
