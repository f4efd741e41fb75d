/- Stage 14: the landed package access: the way through stage 1,and Page: contracts. -/
import Derived.Test.YtlgpdbgingjpbaaGreatZd
import Derived.Test.YtlgpdbgingjpbaaGreatNa
set_option linter.all false
namespace Go.Proofs.YtlgpdbgingjpbaaGreat
open Go.ChangeShapes Go.WideShapes Go.ChangeAt Go.RowKit Go.Deep
theorem begin_good {k:TrC} (ok:TrOk k) {Ds:List Inv} {Es:List Ety} {Rs:List Int} (hT:mayT Es Ds=true) (hG:GoodE k.l Es) {z:EnR} (hz:beginL k.a k.pg ⟨Es,Rs⟩=z) :
  mayT z.2.E Ds=true∧GoodE k.l z.2.E∧z.2.R.length≤Rs.length+4∧(z.1.1.k=0→0≤z.1.2.1∧z.1.2.1≤3∧0≤z.1.2.2∧z.1.2.2 * 8+8≤k.l):=by
 unfold beginL at hz
 split at hz
 ·rename_i hw
  have hw2:0≤walk9 Es k.tg k.tg1 k.pg:=hw.2
  subst hz
  refine ⟨hT,hG,Nat.le_add_right _ _,fun _=>?_⟩
  rcases walkF_is (p:=isWk k.tg k.tg1 k.pg) Es 0 (-1) 0 (by decide) with h1 | ⟨i,x,h1,h2,h3⟩
  ·have h2:walk9 Es k.tg k.tg1 k.pg=-1:=h1
   omega
  ·have hi:walk9 Es k.tg k.tg1 k.pg=(i:Nat):=h3.trans (by omega)
   have hx:Es.getD (walk9 Es k.tg k.tg1 k.pg).toNat ent0=x:=by
    rw [hi,Int.toNat_natCast,List.getD_eq_getElem?_getD,h1]
    rfl
   have hmem:=List.mem_of_getElem? h1
   unfold isWk at h2
   simp only [Bool.and_eq_true,decide_eq_true_eq] at h2
   have hlv:=mayEn_lv (mayT_may hT x hmem) h2.1
   have hfr:=hG x hmem
   simp only [hx]
   exact ⟨by omega,hlv.2,hfr.1,hfr.2⟩
 ·have hr:=reach_good ok (s:=⟨Es,Rs⟩) (acc:=0) hT hG ok.o0 ok.o1 rfl
  have he:=enter_good ok (by decide) (by decide) hr.1 hr.2.1 (fun h=>⟨(hr.2.2.2 h).1,(hr.2.2.2 h).2.1⟩) hz
  refine ⟨he.1,he.2.1,by rw [he.2.2.1];exact hr.2.2.1,fun h=>?_⟩
  have h4:=he.2.2.2 h
  exact ⟨by omega,by omega,h4.2.1,h4.2.2⟩
structure FolX where
 n:Nat
 x:Flt
 lv:Int
 fr:Int
 E:List Ety
 R:List Int
 fE:Option Addr
 fD:Option Addr
 fR:Option Addr
 cE:Nat
 cD:Nat
 cR:Nat
def FolX.μ (x:FolX):Nat:=if x.x.k=0 then x.n+1 else 0
def FolI (k:TrC) (b b2 b3 b4:Nat) (Ds:List Inv) (ft:List Nat) (w0:World) (z:FlR) (x:FolX) (a:Act) (w:World):Prop:=
 followK (followL k.a k.pg k.acc x.n) ((x.x,(x.lv,x.fr)),⟨x.E,x.R⟩)=z∧(x.x.k=0→0≤x.lv∧x.lv+x.n=4∧1≤x.n∧0≤x.fr∧x.fr * 8+8≤k.l∧x.R.length+10 * x.n≤80000)∧mayT x.E Ds=true∧GoodE k.l x.E∧Has Tryz.f235.ntmps [(0,.pointer (some ⟨b,0,none⟩)),(2,.pointer (some ⟨b2,0,none⟩)),(3,.pointer (some ⟨b3,0,none⟩)),(4,.pointer (some ⟨b4,0,none⟩))] a∧Fits ft w0 [⟨b,0,262,trpC k x.lv x.fr (.slice x.fE x.E.length x.cE) (.slice x.fD Ds.length x.cD) (.slice x.fR x.R.length x.cR),.own⟩,ownFx KE.t 14 x.fE x.E.length x.cE (rcells KE x.E),ownFx KI.t 4 x.fD Ds.length x.cD (rcells KI Ds),ownFx 3 1 x.fR x.R.length x.cR (icells x.R),⟨b2,0,235,hitC hit0,.own⟩,⟨b3,0,43,fltC flt0,.own⟩,⟨b4,0,43,fltC x.x,.own⟩] w
def FolR (k:TrC) (b:Nat) (Ds:List Inv) (ft:List Nat) (w0:World) (z:FlR):Ending→World→Prop:=(MidEnd ft w0 b 262 (trpC k z.1.2.1 z.1.2.2) (.tuple #[hitV z.1.1.1,fltV z.1.1.2]) z.2.E Ds z.2.R)
set_option maxRecDepth 100000 in
theorem fol_loop (k:TrC) (b b2 b3 b4:Nat) (Ds:List Inv) {ft:List Nat} {w0 W:World} {a:Act} {Q:Exit→Act→World→Prop} {z:FlR} (ok:TrOk k) (hX:∀ w,Keep ft w0 w→WordsAt w k.f k.l k.X)
  (x0:FolX) (hI:FolI k b b2 b3 b4 Ds ft w0 z x0 a W) (hQr:∀ a w,bodyPost Tryz.prog Tryz.f235 (FolR k b Ds ft w0 z) .ret a w→Q .ret a w):wpI Tryz.prog Q (.code (nthLoop Tryz.f235 0) :: restAt Tryz.f235 0) .normal a W:=by
 rw [show nthLoop Tryz.f235 0=.loop (bodyOf (nthLoop Tryz.f235 0)) from by kernel_rfl]
 refine wp_lp (fun x a w=>FolI k b b2 b3 b4 Ds ft w0 z x a w) FolX.μ x0 hI fun x a w hI=>?_
 obtain ⟨m0,hm0⟩:∃ m,x.μ=m:=⟨_,rfl⟩
 rw [hm0]
 obtain ⟨n,fx,lv,fr,Es,Rs,fE,fD,fR,cE,cD,cR⟩:=x
 obtain ⟨hz,hx,hT9,hG,hT,hF⟩:=hI
 simp only at hz hx hT9 hG hT hF
 by_cases hk0:fx.k=0
 ·obtain ⟨l0,l4,n1,f0,f1,hR⟩:=hx hk0
  have e0:(fx.k != 0)=false:=by rw [hk0];rfl
  have e0':¬ (fx.k≠0):=fun h=>h hk0
  obtain ⟨n,rfl⟩:∃ m,n=m+1:=⟨n - 1,by omega⟩
  have l1:lv≤3:=by omega
  have hl9:IntKind.i64.wrap (lv+1)=lv+1:=IntWalk.i64_in _ (by omega)
  have hkd:=tbl_kind k.X 1 lv fr k.pg
  have hdf:=tbl_frame k.X 1 lv fr k.pg
  have htin:=tbl_in k.X 1 lv fr k.pg
  have hc:=mod_cov k.pg lv ok.p0
  unfold followK at hz
  rw [if_neg e0'] at hz
  unfold followL lookK at hz
  simp only at hz
  obtain ⟨d,hd⟩:∃ d,tblD k.X 1 lv fr k.pg=d:=⟨_,rfl⟩
  rw [hd] at hkd hdf htin hz
  have h13:(d.k==1)=true→lv≠3:=fun h=>by
   simp only [beq_iff_eq] at h
   rcases hkd with h1 | h1 | h1<;>omega
  have hin:(d.k==2)=true→0≤d.f+k.pg % cov lv∧d.f+k.pg % cov lv≤4095:=fun h=>⟨by omega,htin (beq_iff_eq.1 h)⟩
  rcases hkd with hkd | ⟨hkd,_⟩ | hkd
  ·have k1:(d.k==1)=false:=by rw [hkd];rfl
   have k2:(d.k==2)=false:=by rw [hkd];rfl
   rw [if_neg (by omega),if_neg (by omega)] at hz
   exact wp_ex mixedT Tryz.f235 [(0,.pointer (some ⟨b,0,none⟩)),(2,.pointer (some ⟨b2,0,none⟩)),(3,.pointer (some ⟨b3,0,none⟩)),(4,.pointer (some ⟨b4,0,none⟩))] [⟨b,0,262,trpC k lv fr (.slice fE Es.length cE) (.slice fD Ds.length cD) (.slice fR Rs.length cR),.own⟩,ownFx KE.t 14 fE Es.length cE (rcells KE Es),ownFx KI.t 4 fD Ds.length cD (rcells KI Ds),ownFx 3 1 fR Rs.length cR (icells Rs),⟨b2,0,235,(hitC hit0),.own⟩,⟨b3,0,43,(fltC flt0),.own⟩,⟨b4,0,43,(fltC fx),.own⟩] (.r 2 [aN 0 6 0 5,(1,.call 236 (fun _=>[fltV fx]) (fun _=>.bool (fx.k != 0))),(2,.rw (fun _=>.bool (!(fx.k != 0))) (fun _=>.bool true))] (.r 3 [(1,.callg 261 (fun _=>[.pointer (some ⟨b,0,none⟩)]) (fun _=>dscV d) [(0,(fun _=>⟨b,0,262,trpC k lv fr (.slice fE Es.length cE) (.slice fD Ds.length cD) (.slice fR Rs.length cR),.own⟩)),(1,(fun _=>ownFx KE.t 14 fE Es.length cE (rcells KE Es))),(2,(fun _=>ownFx KI.t 4 fD Ds.length cD (rcells KI Ds))),(3,(fun _=>ownFx 3 1 fR Rs.length cR (icells Rs)))] [(0,(fun E=>⟨b,0,262,trpC k lv fr (.slice (E.f 7) Es.length (E.b 7)) (.slice (E.f 8) Ds.length (E.b 8)) (.slice (E.f 9) (Rs++[fr]).length (E.b 9)),.own⟩)),(1,(fun _=>noBx)),(2,(fun _=>noBx)),(3,(fun _=>noBx))] 7 [fun E=>OwnP KE.t 14 (E.f 7) Es.length (E.b 7) (rcells KE Es),fun E=>OwnP KI.t 4 (E.f 8) Ds.length (E.b 8) (rcells KI Ds),fun E=>OwnP 3 1 (E.f 9) (Rs++[fr]).length (E.b 9) (icells (Rs++[fr]))]),aN 3 10 0 9] (.r 4 [a1 1 10 0] (.r 6 [(0,.rw (fun _=>.bool (d.k==1)) (fun _=>.bool false))] (.r 8 [(0,.rw (fun _=>.bool (d.k==2)) (fun _=>.bool false))] (.r 5 [a1 3 0 21,a1 7 0 18,aN 9 6 0 5] (.out none (fun _=>[(0,.pointer (some ⟨b,0,none⟩)),(2,.pointer (some ⟨b2,0,none⟩)),(3,.pointer (some ⟨b3,0,none⟩)),(4,.pointer (some ⟨b4,0,none⟩))]) [(0,(fun E=>⟨b,0,262,trpC k lv fr (.slice (E.f 7) Es.length (E.b 7)) (.slice (E.f 8) Ds.length (E.b 8)) (.slice (E.f 9) (Rs++[fr]).length (E.b 9)),.own⟩)),(7,(fun E=>ownFx KE.t 14 (E.f 7) Es.length (E.b 7) (rcells KE Es))),(8,(fun E=>ownFx KI.t 4 (E.f 8) Ds.length (E.b 8) (rcells KI Ds))),(9,(fun E=>ownFx 3 1 (E.f 9) (Rs++[fr]).length (E.b 9) (icells (Rs++[fr])))),(4,(fun _=>⟨b2,0,235,(hitC hit0),.own⟩)),(5,(fun _=>⟨b3,0,43,(fltC flt0),.own⟩)),(6,(fun _=>⟨b4,0,43,[.int .i64 2,.int .i64 1,.int .i64 lv,.bool false,.int .i64 k.pg],.own⟩))]))))))) hT hF (⟨fun _ W _=>afault_any _ W,fun _=>congrArg (fun bJ=>Value.bool (!bJ)) e0,fun E W hk hp=>(alook_any k b lv fr Es Ds Rs fE fD fR cE cD cR W ((hp.2 rfl).self cover4) ok (fun w hw=>hX w (hk.under hw (cov4 (hp.2 rfl)))) l0 l1 f0 f1 (by omega)).mono fun e w' h=>mid_post hk hp.1 (by rw [hd] at h;exact h),fun _=>congrArg Value.bool k1,fun _=>congrArg Value.bool k2,fun E a w hT1 hF1=>⟨⟨n+1,⟨2,1,lv,false,k.pg⟩,lv,fr,Es,Rs++[fr],(E.f 7),(E.f 8),(E.f 9),(E.b 7),(E.b 8),(E.b 9)⟩,⟨hz,fun h=>absurd h (by simp),hT9,hG,hT1,hF1⟩,by unfold FolX.μ at hm0;unfold FolX.μ;simp only at hm0 ⊢;rw [if_neg (by simp)];rw [if_pos hk0] at hm0;omega⟩⟩) (R:=(FolR k b Ds ft w0 z)) (J:=fun e a w=>match e with | .normal=>∃ x:FolX,FolI k b b2 b3 b4 Ds ft w0 z x a w∧x.μ < m0 | e=>wpI Tryz.prog Q (restAt Tryz.f235 0) e a w) (fun a w h=>wpI_ret (hQr a w h)) (fun e a w h=>by cases e<;>exact h) (fun _=>by kernel_rfl)
  ·have k1:(d.k==1)=true:=by rw [hkd];rfl
   rw [if_pos hkd] at hz
   obtain ⟨⟨⟨nx,⟨nl,nf⟩⟩,⟨nE,nR⟩⟩,hz9⟩:∃ q,enterK k.a k.pg lv fr (lv+1) (reachL k.a ⟨Es,Rs++[fr]⟩ d.f 0)=q:=⟨_,rfl⟩
   rw [hz9] at hz
   have hr:=reach_good ok (s:=⟨Es,Rs++[fr]⟩) (acc:=0) hT9 hG hdf.1 hdf.2 rfl
   have h3:=h13 k1
   have he:=enter_good ok (by omega) (by omega) hr.1 hr.2.1 (fun h=>⟨(hr.2.2.2 h).1,(hr.2.2.2 h).2.1⟩) hz9
   have hrl:=hr.2.2.1
   rw [← he.2.2.1] at hrl
   simp only [List.length_append,List.length_singleton] at he hrl
   obtain ⟨he1,he2,_,he4⟩:=he
   exact wp_ex mixedT Tryz.f235 [(0,.pointer (some ⟨b,0,none⟩)),(2,.pointer (some ⟨b2,0,none⟩)),(3,.pointer (some ⟨b3,0,none⟩)),(4,.pointer (some ⟨b4,0,none⟩))] [⟨b,0,262,trpC k lv fr (.slice fE Es.length cE) (.slice fD Ds.length cD) (.slice fR Rs.length cR),.own⟩,ownFx KE.t 14 fE Es.length cE (rcells KE Es),ownFx KI.t 4 fD Ds.length cD (rcells KI Ds),ownFx 3 1 fR Rs.length cR (icells Rs),⟨b2,0,235,(hitC hit0),.own⟩,⟨b3,0,43,(fltC flt0),.own⟩,⟨b4,0,43,(fltC fx),.own⟩] (.r 2 [aN 0 6 0 5,(1,.call 236 (fun _=>[fltV fx]) (fun _=>.bool (fx.k != 0))),(2,.rw (fun _=>.bool (!(fx.k != 0))) (fun _=>.bool true))] (.r 3 [(1,.callg 261 (fun _=>[.pointer (some ⟨b,0,none⟩)]) (fun _=>dscV d) [(0,(fun _=>⟨b,0,262,trpC k lv fr (.slice fE Es.length cE) (.slice fD Ds.length cD) (.slice fR Rs.length cR),.own⟩)),(1,(fun _=>ownFx KE.t 14 fE Es.length cE (rcells KE Es))),(2,(fun _=>ownFx KI.t 4 fD Ds.length cD (rcells KI Ds))),(3,(fun _=>ownFx 3 1 fR Rs.length cR (icells Rs)))] [(0,(fun E=>⟨b,0,262,trpC k lv fr (.slice (E.f 7) Es.length (E.b 7)) (.slice (E.f 8) Ds.length (E.b 8)) (.slice (E.f 9) (Rs++[fr]).length (E.b 9)),.own⟩)),(1,(fun _=>noBx)),(2,(fun _=>noBx)),(3,(fun _=>noBx))] 7 [fun E=>OwnP KE.t 14 (E.f 7) Es.length (E.b 7) (rcells KE Es),fun E=>OwnP KI.t 4 (E.f 8) Ds.length (E.b 8) (rcells KI Ds),fun E=>OwnP 3 1 (E.f 9) (Rs++[fr]).length (E.b 9) (icells (Rs++[fr]))]),aN 3 10 0 9] (.r 4 [a1 1 10 0] (.r 6 [(0,.rw (fun _=>.bool (d.k==1)) (fun _=>.bool true))] (.r 7 [a1 4 0 21,(5,.rw (fun _=>.int .i64 (IntKind.i64.wrap (lv+1))) (fun _=>.int .i64 (lv+1))),a1 7 10 1,(8,.callg 262 (fun _=>[.pointer (some ⟨b,0,none⟩),.int .i64 (lv+1),.int .i64 d.f]) (fun _=>fltV nx) [(0,(fun E=>⟨b,0,262,trpC k lv fr (.slice (E.f 7) Es.length (E.b 7)) (.slice (E.f 8) Ds.length (E.b 8)) (.slice (E.f 9) (Rs++[fr]).length (E.b 9)),.own⟩)),(7,(fun E=>ownFx KE.t 14 (E.f 7) Es.length (E.b 7) (rcells KE Es))),(8,(fun E=>ownFx KI.t 4 (E.f 8) Ds.length (E.b 8) (rcells KI Ds))),(9,(fun E=>ownFx 3 1 (E.f 9) (Rs++[fr]).length (E.b 9) (icells (Rs++[fr]))))] [(0,(fun E=>⟨b,0,262,trpC k nl nf (.slice (E.f 11) nE.length (E.b 11)) (.slice (E.f 12) Ds.length (E.b 12)) (.slice (E.f 13) nR.length (E.b 13)),.own⟩)),(7,(fun _=>noBx)),(8,(fun _=>noBx)),(9,(fun _=>noBx))] 11 [fun E=>OwnP KE.t 14 (E.f 11) nE.length (E.b 11) (rcells KE nE),fun E=>OwnP KI.t 4 (E.f 12) Ds.length (E.b 12) (rcells KI Ds),fun E=>OwnP 3 1 (E.f 13) nR.length (E.b 13) (icells nR)]),aN 9 6 0 5] (.out none (fun _=>[(0,.pointer (some ⟨b,0,none⟩)),(2,.pointer (some ⟨b2,0,none⟩)),(3,.pointer (some ⟨b3,0,none⟩)),(4,.pointer (some ⟨b4,0,none⟩))]) [(0,(fun E=>⟨b,0,262,trpC k nl nf (.slice (E.f 11) nE.length (E.b 11)) (.slice (E.f 12) Ds.length (E.b 12)) (.slice (E.f 13) nR.length (E.b 13)),.own⟩)),(11,(fun E=>ownFx KE.t 14 (E.f 11) nE.length (E.b 11) (rcells KE nE))),(12,(fun E=>ownFx KI.t 4 (E.f 12) Ds.length (E.b 12) (rcells KI Ds))),(13,(fun E=>ownFx 3 1 (E.f 13) nR.length (E.b 13) (icells nR))),(4,(fun _=>⟨b2,0,235,(hitC hit0),.own⟩)),(5,(fun _=>⟨b3,0,43,(fltC flt0),.own⟩)),(6,(fun _=>⟨b4,0,43,(fltC nx),.own⟩))])))))) hT hF (⟨fun _ W _=>afault_any _ W,fun _=>congrArg (fun bJ=>Value.bool (!bJ)) e0,fun E W hk hp=>(alook_any k b lv fr Es Ds Rs fE fD fR cE cD cR W ((hp.2 rfl).self cover4) ok (fun w hw=>hX w (hk.under hw (cov4 (hp.2 rfl)))) l0 l1 f0 f1 (by omega)).mono fun e w' h=>mid_post hk hp.1 (by rw [hd] at h;exact h),fun _=>congrArg Value.bool k1,fun _=>by rw [hl9],fun E W hk hp=>(aenter_any k b lv fr Es Ds (Rs++[fr]) (E.f 7) (E.f 8) (E.f 9) (E.b 7) (E.b 8) (E.b 9) W ((hp.2 rfl).self cover4) (lv+1) d.f ok (fun w hw=>hX w (hk.under hw (cov4 (hp.2 rfl)))) hT9 hG (by simp only [List.length_append,List.length_singleton];omega) (by omega) (by have:=h13 k1;omega) hdf.1 hdf.2 hz9).mono fun e w' h=>mid_post hk hp.1 h,fun E a w hT1 hF1=>⟨⟨n,nx,nl,nf,nE,nR,(E.f 11),(E.f 12),(E.f 13),(E.b 11),(E.b 12),(E.b 13)⟩,⟨hz,fun h=>⟨by have h4:=he4 h;simp only;omega,by have h4:=he4 h;simp only;omega,by have h4:=he4 h;simp only;omega,(he4 h).2.1,(he4 h).2.2,by have h4:=he4 h;simp only;omega⟩,he1,he2,hT1,hF1⟩,by unfold FolX.μ at hm0;unfold FolX.μ;simp only at hm0 ⊢;rw [if_pos hk0] at hm0;split<;>omega⟩⟩) (R:=(FolR k b Ds ft w0 z)) (J:=fun e a w=>match e with | .normal=>∃ x:FolX,FolI k b b2 b3 b4 Ds ft w0 z x a w∧x.μ < m0 | e=>wpI Tryz.prog Q (restAt Tryz.f235 0) e a w) (fun a w h=>wpI_ret (hQr a w h)) (fun e a w h=>by cases e<;>exact h) (fun _=>by kernel_rfl)
  ·have k1:(d.k==1)=false:=by rw [hkd];rfl
   have k2:(d.k==2)=true:=by rw [hkd];rfl
   rw [if_neg (by omega),if_pos hkd] at hz
   obtain ⟨⟨⟨nh,nx⟩,⟨nE,nR⟩⟩,hz9⟩:∃ q,passL k.a k.pg k.acc lv d ⟨Es,Rs++[fr]⟩=q:=⟨_,rfl⟩
   rw [hz9] at hz
   exact wp_ex mixedT Tryz.f235 [(0,.pointer (some ⟨b,0,none⟩)),(2,.pointer (some ⟨b2,0,none⟩)),(3,.pointer (some ⟨b3,0,none⟩)),(4,.pointer (some ⟨b4,0,none⟩))] [⟨b,0,262,trpC k lv fr (.slice fE Es.length cE) (.slice fD Ds.length cD) (.slice fR Rs.length cR),.own⟩,ownFx KE.t 14 fE Es.length cE (rcells KE Es),ownFx KI.t 4 fD Ds.length cD (rcells KI Ds),ownFx 3 1 fR Rs.length cR (icells Rs),⟨b2,0,235,(hitC hit0),.own⟩,⟨b3,0,43,(fltC flt0),.own⟩,⟨b4,0,43,(fltC fx),.own⟩] (.r 2 [aN 0 6 0 5,(1,.call 236 (fun _=>[fltV fx]) (fun _=>.bool (fx.k != 0))),(2,.rw (fun _=>.bool (!(fx.k != 0))) (fun _=>.bool true))] (.r 3 [(1,.callg 261 (fun _=>[.pointer (some ⟨b,0,none⟩)]) (fun _=>dscV d) [(0,(fun _=>⟨b,0,262,trpC k lv fr (.slice fE Es.length cE) (.slice fD Ds.length cD) (.slice fR Rs.length cR),.own⟩)),(1,(fun _=>ownFx KE.t 14 fE Es.length cE (rcells KE Es))),(2,(fun _=>ownFx KI.t 4 fD Ds.length cD (rcells KI Ds))),(3,(fun _=>ownFx 3 1 fR Rs.length cR (icells Rs)))] [(0,(fun E=>⟨b,0,262,trpC k lv fr (.slice (E.f 7) Es.length (E.b 7)) (.slice (E.f 8) Ds.length (E.b 8)) (.slice (E.f 9) (Rs++[fr]).length (E.b 9)),.own⟩)),(1,(fun _=>noBx)),(2,(fun _=>noBx)),(3,(fun _=>noBx))] 7 [fun E=>OwnP KE.t 14 (E.f 7) Es.length (E.b 7) (rcells KE Es),fun E=>OwnP KI.t 4 (E.f 8) Ds.length (E.b 8) (rcells KI Ds),fun E=>OwnP 3 1 (E.f 9) (Rs++[fr]).length (E.b 9) (icells (Rs++[fr]))]),aN 3 10 0 9] (.r 4 [a1 1 10 0] (.r 6 [(0,.rw (fun _=>.bool (d.k==1)) (fun _=>.bool false))] (.r 8 [(0,.rw (fun _=>.bool (d.k==2)) (fun _=>.bool true))] (.r 9 [aN 1 10 0 9,(2,.callg 263 (fun _=>[.pointer (some ⟨b,0,none⟩),dscV d]) (fun _=>.tuple #[hitV nh,fltV nx]) [(0,(fun E=>⟨b,0,262,trpC k lv fr (.slice (E.f 7) Es.length (E.b 7)) (.slice (E.f 8) Ds.length (E.b 8)) (.slice (E.f 9) (Rs++[fr]).length (E.b 9)),.own⟩)),(7,(fun E=>ownFx KE.t 14 (E.f 7) Es.length (E.b 7) (rcells KE Es))),(8,(fun E=>ownFx KI.t 4 (E.f 8) Ds.length (E.b 8) (rcells KI Ds))),(9,(fun E=>ownFx 3 1 (E.f 9) (Rs++[fr]).length (E.b 9) (icells (Rs++[fr]))))] [(0,(fun E=>⟨b,0,262,trpC k lv fr (.slice (E.f 11) nE.length (E.b 11)) (.slice (E.f 12) Ds.length (E.b 12)) (.slice (E.f 13) nR.length (E.b 13)),.own⟩)),(7,(fun _=>noBx)),(8,(fun _=>noBx)),(9,(fun _=>noBx))] 11 [fun E=>OwnP KE.t 14 (E.f 11) nE.length (E.b 11) (rcells KE nE),fun E=>OwnP KI.t 4 (E.f 12) Ds.length (E.b 12) (rcells KI Ds),fun E=>OwnP 3 1 (E.f 13) nR.length (E.b 13) (icells nR)]),aN 5 4 0 9,aN 6 5 0 5] (.fin [(4,0,9),(5,0,5)] (fun _=>.tuple #[hitV nh,fltV nx]) [(0,(fun E=>⟨b,0,262,trpC k lv fr (.slice (E.f 11) nE.length (E.b 11)) (.slice (E.f 12) Ds.length (E.b 12)) (.slice (E.f 13) nR.length (E.b 13)),.own⟩)),(11,(fun E=>ownFx KE.t 14 (E.f 11) nE.length (E.b 11) (rcells KE nE))),(12,(fun E=>ownFx KI.t 4 (E.f 12) Ds.length (E.b 12) (rcells KI Ds))),(13,(fun E=>ownFx 3 1 (E.f 13) nR.length (E.b 13) (icells nR)))]))))))) hT hF (⟨fun _ W _=>afault_any _ W,fun _=>congrArg (fun bJ=>Value.bool (!bJ)) e0,fun E W hk hp=>(alook_any k b lv fr Es Ds Rs fE fD fR cE cD cR W ((hp.2 rfl).self cover4) ok (fun w hw=>hX w (hk.under hw (cov4 (hp.2 rfl)))) l0 l1 f0 f1 (by omega)).mono fun e w' h=>mid_post hk hp.1 (by rw [hd] at h;exact h),fun _=>congrArg Value.bool k1,fun _=>congrArg Value.bool k2,fun E W hk hp=>(apass_any k b lv fr Es Ds (Rs++[fr]) (E.f 7) (E.f 8) (E.f 9) (E.b 7) (E.b 8) (E.b 9) W ((hp.2 rfl).self cover4) d ok (fun w hw=>hX w (hk.under hw (cov4 (hp.2 rfl)))) hT9 hG (by simp only [List.length_append,List.length_singleton];omega) l0 l1 (hin k2) hz9).mono fun e w' h=>mid_post hk hp.1 h,fun E W hk hp=>by subst hz;exact ⟨E.f 11,E.b 11,E.f 12,E.b 12,E.f 13,E.b 13,rfl,hp.2 rfl⟩⟩) (R:=(FolR k b Ds ft w0 z)) (J:=fun e a w=>match e with | .normal=>∃ x:FolX,FolI k b b2 b3 b4 Ds ft w0 z x a w∧x.μ < m0 | e=>wpI Tryz.prog Q (restAt Tryz.f235 0) e a w) (fun a w h=>wpI_ret (hQr a w h)) (fun e a w h=>by cases e<;>exact h) (fun _=>by kernel_rfl)
 ·have e0:(fx.k != 0)=true:=by simpa using hk0
  unfold followK at hz
  rw [if_pos hk0] at hz
  exact wp_ex mixedT Tryz.f235 [(0,.pointer (some ⟨b,0,none⟩)),(2,.pointer (some ⟨b2,0,none⟩)),(3,.pointer (some ⟨b3,0,none⟩)),(4,.pointer (some ⟨b4,0,none⟩))] [⟨b,0,262,trpC k lv fr (.slice fE Es.length cE) (.slice fD Ds.length cD) (.slice fR Rs.length cR),.own⟩,ownFx KE.t 14 fE Es.length cE (rcells KE Es),ownFx KI.t 4 fD Ds.length cD (rcells KI Ds),ownFx 3 1 fR Rs.length cR (icells Rs),⟨b2,0,235,(hitC hit0),.own⟩,⟨b3,0,43,(fltC flt0),.own⟩,⟨b4,0,43,(fltC fx),.own⟩] (.r 2 [aN 0 6 0 5,(1,.call 236 (fun _=>[fltV fx]) (fun _=>.bool (fx.k != 0))),(2,.rw (fun _=>.bool (!(fx.k != 0))) (fun _=>.bool false))] (.out (some 0) (fun _=>[(0,.pointer (some ⟨b,0,none⟩)),(2,.pointer (some ⟨b2,0,none⟩)),(3,.pointer (some ⟨b3,0,none⟩)),(4,.pointer (some ⟨b4,0,none⟩))]) [(0,(fun _=>⟨b,0,262,trpC k lv fr (.slice fE Es.length cE) (.slice fD Ds.length cD) (.slice fR Rs.length cR),.own⟩)),(1,(fun _=>ownFx KE.t 14 fE Es.length cE (rcells KE Es))),(2,(fun _=>ownFx KI.t 4 fD Ds.length cD (rcells KI Ds))),(3,(fun _=>ownFx 3 1 fR Rs.length cR (icells Rs))),(4,(fun _=>⟨b2,0,235,(hitC hit0),.own⟩)),(5,(fun _=>⟨b3,0,43,(fltC flt0),.own⟩)),(6,(fun _=>⟨b4,0,43,(fltC fx),.own⟩))])) hT hF (⟨fun _ W _=>afault_any _ W,fun _=>congrArg (fun bJ=>Value.bool (!bJ)) e0,fun E a w hT1 hF1=>wpI_pop (k':=popD 0 (restAt Tryz.f235 0)) (by kernel_rfl) (wpI_ex mixedT Tryz.f235 (popD 0 (restAt Tryz.f235 0)) [(0,.pointer (some ⟨b,0,none⟩)),(2,.pointer (some ⟨b2,0,none⟩)),(3,.pointer (some ⟨b3,0,none⟩)),(4,.pointer (some ⟨b4,0,none⟩))] [⟨b,0,262,trpC k lv fr (.slice fE Es.length cE) (.slice fD Ds.length cD) (.slice fR Rs.length cR),.own⟩,ownFx KE.t 14 fE Es.length cE (rcells KE Es),ownFx KI.t 4 fD Ds.length cD (rcells KI Ds),ownFx 3 1 fR Rs.length cR (icells Rs),⟨b2,0,235,(hitC hit0),.own⟩,⟨b3,0,43,(fltC flt0),.own⟩,⟨b4,0,43,(fltC fx),.own⟩] (.r 10 [aN 1 6 0 5,aN 2 4 0 9,aN 3 5 0 5] (.fin [(4,0,9),(5,0,5)] (fun _=>.tuple #[hitV hit0,fltV fx]) [(0,(fun _=>⟨b,0,262,trpC k lv fr (.slice fE Es.length cE) (.slice fD Ds.length cD) (.slice fR Rs.length cR),.own⟩)),(1,(fun _=>ownFx KE.t 14 fE Es.length cE (rcells KE Es))),(2,(fun _=>ownFx KI.t 4 fD Ds.length cD (rcells KI Ds))),(3,(fun _=>ownFx 3 1 fR Rs.length cR (icells Rs)))])) hT1 hF1 (fun E W hk hp=>by subst hz;exact ⟨fE,cE,fD,cD,fR,cR,rfl,hp.2 rfl⟩) (R:=(FolR k b Ds ft w0 z)) (J:=fun _ _ _=>False) hQr (fun _ _ _ h=>h.elim) (fun _=>by kernel_rfl))⟩) (R:=(FolR k b Ds ft w0 z)) (J:=fun e a w=>match e with | .normal=>∃ x:FolX,FolI k b b2 b3 b4 Ds ft w0 z x a w∧x.μ < m0 | e=>wpI Tryz.prog Q (restAt Tryz.f235 0) e a w) (fun a w h=>wpI_ret (hQr a w h)) (fun e a w h=>by cases e<;>exact h) (fun _=>by kernel_rfl)
theorem afollow_any (k:TrC) (b:Nat) (Es:List Ety) (Ds:List Inv) (Rs:List Int) (fE fD fR:Option Addr) (cE cD cR:Nat) (W:World) (hF:TrF k b 0 0 Es Ds Rs fE fD fR cE cD cR W) (ok:TrOk k) (hX:∀ w,Keep (ft4 b fE fD fR) W w→WordsAt w k.f k.l k.X) (hT:mayT Es Ds=true) (hG:GoodE k.l Es) (hR:Rs.length≤70000) {z:FlR} (hz:followB k.a k.pg k.acc (beginL k.a k.pg ⟨Es,Rs⟩)=z) :
  Calls Tryz.prog 235 #[.pointer (some ⟨b,0,none⟩)] W (TrE k b z.1.2.1 z.1.2.2 fE fD fR W (.tuple #[hitV z.1.1.1,fltV z.1.1.2]) z.2.E Ds z.2.R):=by
 obtain ⟨⟨⟨nx,⟨nl,nf⟩⟩,⟨nE,nR⟩⟩,hz9⟩:∃ q,beginL k.a k.pg ⟨Es,Rs⟩=q:=⟨_,rfl⟩
 have hg:=begin_good ok hT hG hz9
 rw [hz9] at hz
 unfold followB at hz
 simp only at hg hz
 have hR:=(show Rs.length≤90000 by omega)
 have hs:nx.k=0→0≤nl∧nl+(4 - nl).toNat=4∧1≤(4 - nl).toNat∧0≤nf∧nf * 8+8≤k.l∧nR.length+10 * (4 - nl).toNat≤80000:=fun h=>by
  obtain ⟨a0,a1,a2,a3⟩:=hg.2.2.2 h
  exact ⟨a0,by omega,by omega,a2,a3,by omega⟩
 exact calls_ex mixedT [⟨b,0,262,trpC k 0 0 (.slice fE Es.length cE) (.slice fD Ds.length cD) (.slice fR Rs.length cR),.own⟩,ownFx KE.t 14 fE Es.length cE (rcells KE Es),ownFx KI.t 4 fD Ds.length cD (rcells KI Ds),ownFx 3 1 fR Rs.length cR (icells Rs)] (.r 1 [(1,.callg 260 (fun _=>[.pointer (some ⟨b,0,none⟩)]) (fun _=>fltV nx) [(0,(fun _=>⟨b,0,262,trpC k 0 0 (.slice fE Es.length cE) (.slice fD Ds.length cD) (.slice fR Rs.length cR),.own⟩)),(1,(fun _=>ownFx KE.t 14 fE Es.length cE (rcells KE Es))),(2,(fun _=>ownFx KI.t 4 fD Ds.length cD (rcells KI Ds))),(3,(fun _=>ownFx 3 1 fR Rs.length cR (icells Rs)))] [(0,(fun E=>⟨b,0,262,trpC k nl nf (.slice (E.f 6) nE.length (E.b 6)) (.slice (E.f 7) Ds.length (E.b 7)) (.slice (E.f 8) nR.length (E.b 8)),.own⟩)),(1,(fun _=>noBx)),(2,(fun _=>noBx)),(3,(fun _=>noBx))] 6 [fun E=>OwnP KE.t 14 (E.f 6) nE.length (E.b 6) (rcells KE nE),fun E=>OwnP KI.t 4 (E.f 7) Ds.length (E.b 7) (rcells KI Ds),fun E=>OwnP 3 1 (E.f 8) nR.length (E.b 8) (icells nR)]),aN 3 9 0 5] (.lp (restAt Tryz.f235 0) (nthLoop Tryz.f235 0) (fun E=>[(0,.pointer (some ⟨b,0,none⟩)),(2,.pointer (some ⟨E.b 4,0,none⟩)),(3,.pointer (some ⟨E.b 5,0,none⟩)),(4,.pointer (some ⟨E.b 9,0,none⟩))]) [(0,(fun E=>⟨b,0,262,trpC k nl nf (.slice (E.f 6) nE.length (E.b 6)) (.slice (E.f 7) Ds.length (E.b 7)) (.slice (E.f 8) nR.length (E.b 8)),.own⟩)),(6,(fun E=>ownFx KE.t 14 (E.f 6) nE.length (E.b 6) (rcells KE nE))),(7,(fun E=>ownFx KI.t 4 (E.f 7) Ds.length (E.b 7) (rcells KI Ds))),(8,(fun E=>ownFx 3 1 (E.f 8) nR.length (E.b 8) (icells nR))),(4,(fun E=>⟨E.b 4,0,235,(hitC hit0),.own⟩)),(5,(fun E=>⟨E.b 5,0,43,(fltC flt0),.own⟩)),(9,(fun E=>⟨E.b 9,0,43,(fltC nx),.own⟩))])) Tryz.func235 rfl hF (⟨fun E W hk hp=>(astart_any k b Es Ds Rs fE fD fR cE cD cR W ((hp.2 rfl).self cover4) ok (fun w hw=>hX w (hk.under hw (cov4 (hp.2 rfl)))) hT hG hR hz9).mono fun e w' h=>mid_post hk hp.1 h,fun E a W hT1 hF1 Q hQr _=>fol_loop k b (E.b 4) (E.b 5) (E.b 9) Ds ok hX ⟨(4 - nl).toNat,nx,nl,nf,nE,nR,(E.f 6),(E.f 7),(E.f 8),(E.b 6),(E.b 7),(E.b 8)⟩ ⟨hz,hs,hg.1,hg.2.1,hT1,hF1⟩ hQr⟩) rfl (fun _=>by kernel_rfl)
end Go.Proofs.YtlgpdbgingjpbaaGreat
