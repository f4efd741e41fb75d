/- Stage 15: package step: an address is reached: contracts. -/
import Derived.Test.YtlgpdbgingjpbaaGreatZf
import Derived.Test.YtlgpdbgingjpbaaGreatZp
import Derived.Test.YtlgpdbgingjpbaaGreatKt
import Derived.Test.YtlgpdbgingjpbaaGreatGa
import Derived.Test.YtlgpdbgingjpbaaGreatDb
set_option linter.all false
namespace Go.Proofs.YtlgpdbgingjpbaaGreat
open Go.ChangeShapes Go.WideShapes Go.ChangeAt Go.RowKit Go.Deep
structure CorK where
 fW:Option Addr
 lW:Nat
 cW:Nat
 X:Nat→BitVec 64
 cp:Nat
 on2:Bool
 tf:Int
 tg:Int
 pc:Int
 pf:Bool
 pm:Bool
 pw:Bool
 pd:Int
 pu:Bool
 ou:Int
 kd:Int
 ins:Ins
 fl:Flt
 er:Int
 r:Rg
def corL (k:CorK) (sA sR:Value):List Value:=[.slice k.fW k.lW k.cW,sA,.int .i64 (k.cp:Int),.bool k.on2,.int .i64 k.tf,.int .i64 k.tg,.int .i64 k.pc,.bool k.pf,.bool k.pm,.bool k.pw,.int .i64 k.pd,.bool k.pu,.int .i64 k.ou,.int .i64 k.kd,.int .i64 k.ins.op,.int .i64 k.ins.d,.int .i64 k.ins.n,.int .i64 k.ins.m,.int .i64 k.ins.i,.int .i64 k.fl.k,.int .i64 k.fl.st,.int .i64 k.fl.lv,.bool k.fl.w,.int .i64 k.fl.p,.int .i64 k.er,sR,.int .u64 (u k.r.x0),.int .u64 (u k.r.x1),.int .u64 (u k.r.x2),.int .u64 (u k.r.x3),.int .u64 (u k.r.x4),.int .u64 (u k.r.x5),.int .u64 (u k.r.x6),.int .u64 (u k.r.x7),.int .u64 (u k.r.pc),.int .u64 (u k.r.tt),.int .u64 (u k.r.sc),.int .u64 (u k.r.vb),.int .u64 (u k.r.el),.int .u64 (u k.r.es),.int .u64 (u k.r.fa)]
def trK (k:CorK) (on1:Bool) (of1 tg1 pg acc:Int):TrC:=⟨k.fW,k.lW,k.cW,k.X,on1,of1,tg1,k.on2,k.tf,k.tg,k.pc,k.pf,k.pm,k.pw,k.pd,k.pu,pg,acc⟩
def setL:List Value→Nat→List Value→List Value
 | xs,_,[]=>xs
 | xs,o,v :: vs=>setL (xs.set o v) (o+1) vs
theorem setL_mid:∀ (vs a b c:List Value),b.length=vs.length→setL (a++(b++c)) a.length vs=a++(vs++c)
 | [],a,b,c,h=>by
  obtain rfl:b=[]:=by simpa using h
  rfl
 | v :: vs,a,b,c,h=>by
  cases b with
  | nil=>simp at h
  | cons y b=>
   have h1:(a++(y :: b++c)).set a.length v=(a++[v])++(b++c):=by simp
   have h2:=setL_mid vs (a++[v]) b c (by simpa using h)
   simp only [setL,h1]
   rw [show a.length+1=(a++[v]).length by simp,h2]
   simp
theorem rcells_set {Q:Type} (K:RowK Q) (L:List Q) (i:Nat) (q:Q) (hi:i < L.length):rcells K (L.set i q)=setL (rcells K L) (i * K.N) (K.V q).toList:=by
 have h1:L=L.take i++([L[i]]++L.drop (i+1)):=by simp
 have h2:L.set i q=L.take i++([q]++L.drop (i+1)):=by simp [List.set_eq_take_append_cons_drop,hi]
 have h3:∀ x:Q,rcells K [x]=(K.V x).toList:=fun x=>by simp [rcells]
 have h4:(rcells K (L.take i)).length=i * K.N:=by rw [rcells_length,List.length_take,Nat.min_eq_left (by omega)]
 have h5:rcells K L=rcells K (L.take i)++((K.V L[i]).toList++rcells K (L.drop (i+1))):=by
  conv=>lhs;rw [h1]
  rw [rcells_append,rcells_append,h3]
 rw [h2,rcells_append,rcells_append,h3,h5,← h4]
 exact (setL_mid _ _ _ _ (by simp [K.size])).symm
theorem grownBy_trans {w1 w2 w3:World} {g:Option Nat} (a:w1.grownBy w2 g) (b:w2.grownBy w3 g):w1.grownBy w3 g:=
 ⟨b.os.trans a.os,b.tape.trans a.tape,b.output.trans a.output,Nat.le_trans a.size b.size,fun j hj hn=>(b.block j (Nat.lt_of_lt_of_le hj a.size) hn).trans (a.block j hj hn)⟩
theorem stored_row {e:TypeId} {size g n cap:Nat}:∀ (vs xs:List Value) (o:Nat) (w:World),OwnP e size (some ⟨g,0,none⟩) n cap xs w→OwnP e size (some ⟨g,0,none⟩) n cap (setL xs o vs) (w.setCells g o vs)∧w.grownBy (w.setCells g o vs) (some g)
 | [],xs,o,w,h=>⟨h,⟨rfl,rfl,rfl,Nat.le_refl _,fun _ _ _=>rfl⟩⟩
 | v :: vs,xs,o,w,h=>by
  obtain ⟨h1,h2⟩:=World.ownsRow.stored h o v
  obtain ⟨h3,h4⟩:=stored_row vs (xs.set o v) (o+1) _ h1
  exact ⟨h3,grownBy_trans h2 h4⟩
theorem stK_opc {Q:Type} {K:RowK Q} {ft:List Nat} {w0 W:World} {i c j:Nat} {f:Option Addr} {L:List Q} {q:Q} {E:Env} {ρ:Operand→Value} {o:Oper} {t:TypeId} {p y:Operand} {x0 x1:Env→Bx} {rest:BL} (ho:o.op=.store t p y) (hx:[ρ p,ρ y]=[.pointer (some ⟨blkOf f,j * K.N,none⟩),.agg (K.V q)]) (hk:Keep ft w0 W)
  (ht:t=K.t) (hp:(x0 E).Holds ft w0 W) (h0:x0 E=ownFx K.t K.N f L.length c (rcells K L)) (h1:x1 E=ownFx K.t K.N f L.length c (rcells K (L.set j q))) (hj:j < L.length) :
  ∃ q' w',(execOp ρ o).run Tryz.prog W=.ok .skip w'∧GPost ft w0 0 (fun _=>undef) ((i,x0) :: rest) [(i,x1)] [] E W (.returned undef) w' q':=by
 subst ht
 rw [h0] at hp
 obtain ⟨_,hb,hP,_⟩:=hp
 obtain ⟨hf,hc⟩:=hP.at (by omega)
 have hf2:f.map (fun x:Addr=>x.block)=some (blkOf f):=by rw [hf];rfl
 have hP0:=hP
 rw [hf] at hP0
 obtain ⟨s1,s2⟩:=stored_row (K.V q).toList (rcells K L) (j * K.N) W hP0
 rw [← rcells_set K L j q hj] at s1
 have hi:(Tryz.prog.info? K.t).map (·.size)=some (K.V q).size:=by
  have:=K.info
  cases hq:Tryz.prog.info? K.t with
  | none=>rw [hq] at this;cases this
  | some z=>
   rw [hq] at this
   simp only [Option.map_some,Option.some.injEq,Prod.mk.injEq] at this ⊢
   rw [this.2.1,K.size]
 have hthere:W.there (blkOf f) (j * K.N) (K.V q).size:=fun m hm=>by
  rw [K.size] at hm
  obtain ⟨z,hz⟩:∃ z,L[j]?=some z:=⟨L[j],by simp [hj]⟩
  have hcell:=rcells_get K L j z hz m hm
  rw [Array.getElem?_eq_getElem (by rw [K.size];exact hm)] at hcell
  exact ⟨by rw [hc _ _ hcell];rfl,World.ownsRow.frozenAt hP0 _⟩
 have hr:=run_storeAt_mid (P:=Tryz.prog) W (blkOf f) (j * K.N) K.t (K.V q) hthere hi (Array.all_eq_true_iff_forall_mem.2 fun v hv=>K.one q v (by simpa using hv))
 simp only [List.cons.injEq,and_true] at hx
 refine ⟨fun _=>(0,none),_,?_,rfl,fun p hp=>?_,⟨s2.os.trans hk.os,s2.tape.trans hk.tape,s2.output.trans hk.output,Nat.le_trans hk.size s2.size,fun m hm hn=>(s2.block m (Nat.lt_of_lt_of_le hm hk.size) fun hh=>?_).trans (hk.block m hm hn)⟩,s2.size,fun m hm hn=>s2.block m hm fun hh=>?_,fun m p hp=>by simp at hp⟩
 ·unfold execOp
  simp only [ho,hx.1,hx.2,Sem.run_bind,hr,Result.andThen_ok]
  rfl
 ·obtain rfl:=List.mem_singleton.1 hp
  show (x1 _).Holds ft w0 _
  have e1:x1 (envN ([]:List (Env→FV)) E 0 fun _=>(0,none))=ownFx K.t K.N f L.length c (rcells K (L.set j q)):=h1
  rw [e1]
  refine ⟨rfl,fun b hb'=>⟨(hb b hb').1,?_⟩,?_,OwnP.local _ _ _ _ _ _⟩
  ·exact Nat.lt_of_lt_of_le (hb b hb').2 s2.size
  ·rw [← hf] at s1
   exact s1
 ·rcases (hb (blkOf f) hf2).1 with h | h
  ·injection hh with hh
   exact hn (hh ▸ h)
  ·injection hh with hh
   omega
 ·refine hn (i,x0) (List.mem_cons_self ..) (by simp) ?_
  have hm:blkOf f=m:=(Option.some.inj hh).symm
  have hr:(ownFx K.t K.N f L.length c (rcells K L)).rd m:=hf2.trans (congrArg some hm)
  exact (congrArg (fun x:Bx=>x.rd m) h0).mpr hr
set_option maxRecDepth 100000 in
theorem sclT_any (f:Option Addr) (l c:Nat) (L:List Tlh) (w:World) (hL:RowsAt KT w f L) (hn:l=L.length) (hl:l≤100000) (hf:f=none→c=0) :
  Calls Tryz.prog 85 #[.slice f l c] w fun e w'=>∃ f' c',e=.returned (.slice f' l c')∧OwnR KT w' w.heap.size (.slice f' l c') L∧Below w.heap.size w w':=by
 rcases f with _ | q
 ·have hL0:L=[]:=by
   cases L with
   | nil=>rfl
   | cons x L=>
    obtain ⟨b,o,he,_⟩:=hL 0 x rfl
    cases he
  have hc0:=hf rfl
  subst hL0 hn hc0
  clear hL hf hl
  have he:∀ w:World,(binOp .eql 31 (.slice none 0 0) (.slice none 0 0)).run Tryz.prog w=.ok (.bool true) w:=fun _=>rfl
  go_enter Tryz.func85,Tryz.ntmps85
  go_wp2
  go_ret
  exact ⟨none,0,rfl,OwnR.nil _ _,Below.refl _ _⟩
 ·have he:∀ w:World,(binOp .eql 31 (.slice (some q) l c) (.slice none 0 0)).run Tryz.prog w=.ok (.bool false) w:=fun _=>rfl
  have HA:=Lib.hid (bel_alloc (Below.refl w.heap.size w) (.cells #[] KT.t))
  have HL:=Lib.hid (hL.below HA.out)
  have HN:=Lib.hid hn
  have HO:=Lib.hid (OwnR.made (K:=KT) w w.heap.size [] #[] 0 (Nat.le_refl _) rfl (by simp) rfl)
  clear hL hn hf
  go_enter Tryz.func85,Tryz.ntmps85
  go_wp2_with (at_builtin;refine wpList_rowRl (K:=KT) rfl _ _ rfl w.heap.size 0 l l _ [] L rfl HO.out rfl (some q) c rfl HN.out (by omega) HL.out (by simp) (by omega) HA.out.size ?_;intro f2 c2 w2 hO2 hG2 _)
  go_ret
  exact ⟨f2,c2,rfl,hO2,HA.out.grown hG2 HA.out.size HO.out.blk⟩
theorem Fits.ins {ft:List Nat} {w0 w:World} (a c:List Bx) (H:Fits ft w0 (a++c) w):Fits ft w0 (a++noBx :: c) w:=by
 have key:∀ (i:Nat) (z:Bx),(a++noBx :: c)[i]?=some z→z=noBx∨∃ i',(a++c)[i']?=some z∧i=(if i' < a.length then i' else i'+1):=fun i z hz=>by
  by_cases h1:i < a.length
  ·rw [List.getElem?_append_left h1] at hz
   exact Or.inr ⟨i,by rw [List.getElem?_append_left h1];exact hz,by rw [if_pos h1]⟩
  ·rw [List.getElem?_append_right (by omega)] at hz
   cases hi:i - a.length with
   | zero=>
    rw [hi] at hz
    exact Or.inl (Option.some.inj hz).symm
   | succ m=>
    rw [hi,List.getElem?_cons_succ] at hz
    exact Or.inr ⟨i - 1,by rw [List.getElem?_append_right (by omega),show i - 1 - a.length=m by omega];exact hz,by rw [if_neg (by omega)];omega⟩
 refine ⟨H.keep,fun i z hz=>?_,fun i j z y hz hy hij b hb hyb=>?_⟩
 ·rcases key i z hz with rfl | ⟨i',h1,_⟩
  ·rfl
  ·exact H.all i' z h1
 ·rcases key i z hz with rfl | ⟨i',h1,e1⟩
  ·cases hb
  ·rcases key j y hy with rfl | ⟨j',h2,e2⟩
   ·cases hyb
   ·exact H.ne i' j' z y h1 h2 (fun e=>hij (by rw [e1,e2,e])) b hb hyb
theorem Fits.insN {ft:List Nat} {w0 w:World} (a c:List Bx) (H:Fits ft w0 (a++c) w):∀ zs:List Nat,Fits ft w0 (a++(zs.map (fun _=>noBx)++c)) w
 | []=>H
 | _ :: zs=>Fits.ins a _ (Fits.insN a c H zs)
def CorE (ft:List Nat) (b:Nat) (fA:Option Addr) (cs:Value→List Value) (nA cA:Nat) (mkA:Tlh→List Tlh) (v:Value→Value) (Es:List Ety) (Ds:List Inv) (Rs:List Int) (W:World) (e:Ending) (w':World):Prop:=
 ∃ fE cE fD cD fR cR,e=.returned (v (.slice fR Rs.length cR))∧Fits ft W [⟨b,0,86,cs (.slice fR Rs.length cR),.own⟩,ownFx KT.t 2 fA nA cA (rcells KT (mkA ⟨fE,Es.length,cE,fD,Ds.length,cD⟩)),ownFx KE.t 14 fE Es.length cE (rcells KE Es),ownFx KI.t 4 fD Ds.length cD (rcells KI Ds),ownFx 3 1 fR Rs.length cR (icells Rs)] w'
theorem core_post {ft ft0:List Nat} {w0 W w':World} {k:Nat} {E:Env} {e:Ending} {b iW iA nA n0 cA:Nat} {fA:Option Addr} {cs0 xs0:List Value} {cs:Value→List Value} {mkA:Tlh→List Tlh} {v:Value→Value} {v':Env→Value} {Es:List Ety} {Ds:List Inv} {Rs:List Int} {xW xA xW' xA':Env→Bx} {gE gD gR:Env→FV} {rest:BL} (zs:List Nat)
  (hk:Keep ft0 w0 W) (hp:∀ p∈(iW,xW) :: (iA,xA) :: rest,(p.2 E).Holds ft0 w0 W) (h:CorE ft b fA cs nA cA mkA v Es Ds Rs W e w') (hft:∀ c∈ft,c=b∨fA.map (fun x:Addr=>x.block)=some c∨∃ p∈rest,p.1∈zs∧(p.2 E).fp c)
  (hd:iW≠iA:=by decide) (hr:∀ p∈rest,p.1≠iW∧p.1≠iA:=by simp) (hz:∀ i∈zs,i≠iW∧i≠iA:=by simp)
  (hW:xW E=⟨b,0,86,cs0,.own⟩:=by rfl) (hA:xA E=ownFx KT.t 2 fA n0 cA xs0:=by rfl)
  (hv:∀ q:Sup,v' (envN [gE,gD,gR] E k q)=v (.slice (q (k+2)).2 Rs.length (q (k+2)).1):=by exact fun _=>rfl)
  (hW':∀ q:Sup,xW' (envN [gE,gD,gR] E k q)=⟨b,0,86,cs (.slice (q (k+2)).2 Rs.length (q (k+2)).1),.own⟩:=by exact fun _=>rfl)
  (hA':∀ q:Sup,xA' (envN [gE,gD,gR] E k q)=ownFx KT.t 2 fA nA cA (rcells KT (mkA ⟨(q k).2,Es.length,(q k).1,(q (k+1)).2,Ds.length,(q (k+1)).1⟩)):=by exact fun _=>rfl)
  (hE':∀ q:Sup,gE (envN [gE,gD,gR] E k q)=OwnP KE.t 14 (q k).2 Es.length (q k).1 (rcells KE Es):=by exact fun _=>rfl) (hD':∀ q:Sup,gD (envN [gE,gD,gR] E k q)=OwnP KI.t 4 (q (k+1)).2 Ds.length (q (k+1)).1 (rcells KI Ds):=by exact fun _=>rfl)
  (hR':∀ q:Sup,gR (envN [gE,gD,gR] E k q)=OwnP 3 1 (q (k+2)).2 Rs.length (q (k+2)).1 (icells Rs):=by exact fun _=>rfl) :
  ∃ q,GPost ft0 w0 k v' ((iW,xW) :: (iA,xA) :: rest) ((iW,xW') :: (iA,xA') :: zs.map fun i=>(i,fun _=>noBx)) [gE,gD,gR] E W e w' q:=by
 obtain ⟨aE,kE,aD,kD,aR,kR,he,hF⟩:=h
 have q0:(fun i=>if i=k then (kE,aE) else if i=k+1 then (kD,aD) else (kR,aR):Sup) k=(kE,aE):=if_pos rfl
 have q1:(fun i=>if i=k then (kE,aE) else if i=k+1 then (kD,aD) else (kR,aR):Sup) (k+1)=(kD,aD):=(if_neg (by omega)).trans (if_pos rfl)
 have q2:(fun i=>if i=k then (kE,aE) else if i=k+1 then (kD,aD) else (kR,aR):Sup) (k+2)=(kR,aR):=(if_neg (by omega)).trans (if_neg (by omega))
 generalize (fun i=>if i=k then (kE,aE) else if i=k+1 then (kD,aD) else (kR,aR):Sup)=q at *
 have hv:=hv q
 have hW':=hW' q
 have hA':=hA' q
 have hE':=hE' q
 have hD':=hD' q
 have hR':=hR' q
 rw [q2] at hv hW' hR'
 rw [q0,q1] at hA'
 rw [q0] at hE'
 rw [q1] at hD'
 refine GPost.fin (ft:=ft) q hk hp (fun x hx=>?_) (fun p hpp p' hp' hi=>?_) (by rw [he,hv]) ?_
 ·rcases hft x hx with rfl | h1 | ⟨p,h1,h2,h3⟩
  ·exact ⟨(iW,xW),by simp,fp_of hW rfl,by simp⟩
  ·exact ⟨(iA,xA),by simp,fp_of hA h1,by simp⟩
  ·exact ⟨p,by simp [h1],h3,by simp [h2]⟩
 ·simp only [List.mem_cons] at hpp hp'
  rcases hp' with rfl | rfl | hp'
  ·rcases hpp with rfl | rfl | hpp
   ·exact Or.inr ((congrArg Bx.fp hW').trans (congrArg Bx.fp hW).symm)
   ·exact absurd hi hd
   ·exact absurd hi.symm (hr _ hpp).1
  ·rcases hpp with rfl | rfl | hpp
   ·exact absurd hi.symm hd
   ·exact Or.inr ((congrArg Bx.fp hA').trans (congrArg Bx.fp hA).symm)
   ·exact absurd hi.symm (hr _ hpp).2
  ·obtain ⟨i,_,rfl⟩:=List.mem_map.1 hp'
   exact Or.inl rfl
 ·have hG:=Fits.insN [_,_] _ hF zs
  show Fits _ W (xW' (envN [gE,gD,gR] E k q) :: xA' (envN [gE,gD,gR] E k q) :: ((zs.map fun i=>((i,fun _=>noBx):Nat×(Env→Bx))).map (fun p=>p.2 (envN [gE,gD,gR] E k q))++[factB q (envN [gE,gD,gR] E k q) k gE,factB q (envN [gE,gD,gR] E k q) (k+1) gD,factB q (envN [gE,gD,gR] E k q) (k+1+1) gR])) w'
  unfold factB
  rw [hW',hA',hE',hD',hR',q0,q1,show k+1+1=k+2 from rfl,q2,List.map_map]
  exact hG
theorem cvA2 {b g:Nat} {t e:TypeId} {cs xs:List Value} {s n c:Nat}:∀ (i:Nat) (x:Bx),[⟨b,0,t,cs,.own⟩,ownFx e s (some ⟨g,0,none⟩) n c xs][i]?=some x→∀ b',x.fp b'→b'∈[b,g]:=fun i x hi b' hb=>by
 rcases i with _ | _ | i
 ·obtain rfl:=Option.some.inj hi
  obtain rfl:=Option.some.inj hb
  simp
 ·obtain rfl:=Option.some.inj hi
  obtain rfl:=Option.some.inj hb
  simp
 ·simp at hi
theorem cov3 {b g:Nat} {t e e2:TypeId} {cs xs ys:List Value} {s n c s2 n2 c2:Nat} {f:Option Addr}:∀ (i:Nat) (x:Bx),[⟨b,0,t,cs,.own⟩,ownFx e s (some ⟨g,0,none⟩) n c xs,ownFx e2 s2 f n2 c2 ys][i]?=some x→∀ b',x.fp b'→b'∈b :: g :: (f.map (·.block)).toList:=fun i x hi b' hb=>by
 rcases i with _ | _ | _ | i
 ·obtain rfl:=Option.some.inj hi
  obtain rfl:=Option.some.inj hb
  simp
 ·obtain rfl:=Option.some.inj hi
  obtain rfl:=Option.some.inj hb
  simp
 ·obtain rfl:=Option.some.inj hi
  have hb:f.map (fun x:Addr=>x.block)=some b':=hb
  simp [hb]
 ·simp at hi
def pgA (v:BitVec 64):Int:=u v / 64
def inA (v:BitVec 64):Int:=u v % 64
theorem sat_any (v:BitVec 64) (w:World) :
  Calls Tryz.prog 26 #[.int .u64 (u v)] w fun e w'=>e=.returned (if (u v:Int)≥262144 then .tuple #[.int .i64 0,.int .i64 0,.int .i64 2] else .tuple #[.int .i64 (pgA v),.int .i64 (inA v),.int .i64 0])∧Below w.heap.size w w':=by
 have h0:0≤u v:=u_lo v
 have h1:u v < 18446744073709551616:=u_hi v
 have hw1:IntKind.u64.wrap (Int.tdiv (u v) 64)=pgA v:=by
  rw [Int.tdiv_eq_ediv_of_nonneg h0]
  exact IntWalk.u64_in _ (by omega)
 have hw2:Int.tmod (u v) 64=inA v:=Int.tmod_eq_emod_of_nonneg h0
 have hw3:IntKind.i64.wrap (pgA v)=pgA v:=IntWalk.i64_in _ (by unfold pgA;omega)
 have hw4:IntKind.i64.wrap (inA v)=inA v:=IntWalk.i64_in _ (by unfold inA;omega)
 exact calls_ex mixedT [] (.split (decide (((u v):Int)≥262144)) (.fin [] (fun _=>.tuple #[.int .i64 0,.int .i64 0,.int .i64 2]) []) (.r 3 [(1,.rw (fun _=>.int .u64 (IntKind.u64.wrap (Int.tdiv (u v) 64))) (fun _=>.int .u64 (pgA v))),(2,.rw (fun _=>.int .i64 (IntKind.i64.wrap (pgA v))) (fun _=>.int .i64 (pgA v))),(4,.rw (fun _=>.int .u64 (Int.tmod (u v) 64)) (fun _=>.int .u64 (inA v))),(5,.rw (fun _=>.int .i64 (IntKind.i64.wrap (inA v))) (fun _=>.int .i64 (inA v)))] (.fin [] (fun _=>.tuple #[.int .i64 (pgA v),.int .i64 (inA v),.int .i64 0]) []))) Tryz.func26 rfl (Fits.nil w) (⟨fun hS1=>fun _ _ h _=>⟨by first | rw [if_pos (of_decide_eq_true hS1)] | rw [if_neg (of_decide_eq_false hS1)],h.below⟩,fun hS1=>⟨fun _=>by rw [hw1],fun _=>by rw [hw3],fun _=>by rw [hw2],fun _=>by rw [hw4],fun _ _ h _=>⟨by first | rw [if_pos (of_decide_eq_true hS1)] | rw [if_neg (of_decide_eq_false hS1)],h.below⟩⟩⟩) rfl (fun _=>by kernel_rfl)
theorem sown_any (k:CorK) (b g n cA:Nat) (sR:Value) (w:World) (hcp:k.cp < n) (hb:Fits [] w [⟨b,0,86,corL k (.slice (some ⟨g,0,none⟩) n cA) sR,.row⟩] w) :
  Calls Tryz.prog 148 #[.pointer (some ⟨b,1,none⟩)] w fun e w'=>e=.returned (.pointer (some ⟨g,k.cp * 2,none⟩))∧Below w.heap.size w w':=by
 exact calls_ex mixedT [⟨b,0,86,corL k (.slice (some ⟨g,0,none⟩) n cA) sR,.row⟩] (.r 1 [a1 3 0 1,a1 7 0 2,(8,.ix 31 (fun _=>.slice (some ⟨g,0,none⟩) n cA) (fun _=>.int .i64 (k.cp:Int)) (fun _=>.pointer (some ⟨g,k.cp * 2,none⟩)))] (.fin [] (fun _=>.pointer (some ⟨g,k.cp * 2,none⟩)) [])) Tryz.func148 rfl hb (⟨fun _ _=>(ix_row 31 77 g 0 _ _ k.cp 2 Tryz.underlying31 (by kernel_rfl) hcp).trans (by rw [Nat.zero_add]),fun _ _ h _=>⟨rfl,h.below⟩⟩) rfl (fun _=>by kernel_rfl)
def rchV (f:Flt) (n:Int) (v:BitVec 64) (R:List Int):Int×Flt×List Int:=if f.k≠0 then (0,f,R) else (n * 64+inA v,flt0,R++[n])
theorem rchV_no {f:Flt} {n:Int} {v:BitVec 64} {R:List Int} (h:f.k≠0):rchV f n v R=(0,f,R):=if_pos h
theorem rchV_yes {f:Flt} {n:Int} {v:BitVec 64} {R:List Int} (h:f.k=0):rchV f n v R=(n * 64+inA v,flt0,R++[n]):=if_neg (fun h'=>h' h)
theorem sreach_any (k:CorK) (b g cA cE cD:Nat) (H:List Tlh) (sR:Value) (on1:Bool) (of1 tg1 acc:Int) (v:BitVec 64) (fE fD:Option Addr) (Es Es2:List Ety) (Ds:List Inv) (n:Int) (fx:Flt) (Rs2:List Int) (W:World)
  (hF:Fits [b,g] W [⟨b,0,86,corL k (.slice (some ⟨g,0,none⟩) H.length cA) sR,.own⟩,ownFx KT.t 2 (some ⟨g,0,none⟩) H.length cA (rcells KT H)] W) (hh:H[k.cp]?=some ⟨fE,Es.length,cE,fD,Ds.length,cD⟩)
  (hE:∀ w,Keep [b,g] W w→RowsAt KE w fE Es) (hD:∀ w,Keep [b,g] W w→RowsAt KI w fD Ds) (hls:Es.length≤90000) (hms:Ds.length≤90000) (hc:Es.length≤cE) (hc2:cE≤maxLen) (hf:fE=none→cE=0) (hg:fD=none→cD=0)
  (hX:∀ w,Keep [b,g] W w→WordsAt w k.fW k.lW k.X) (hlc:k.lW≤k.cW) (hv:u v < 262144) (hB:mayB14 (trK k on1 of1 tg1 (pgA v) acc) Es Ds=true) (hz:pageA (trK k on1 of1 tg1 (pgA v) acc).a on1 Es (pgA v) acc k.pd=((n,fx),⟨Es2,Rs2⟩)) (hn:fx.k=0→0≤n∧n≤4095) (hl2:Rs2.length≤90000) :
  Calls Tryz.prog 111 #[.pointer (some ⟨b,0,none⟩),.agg #[.bool on1,.int .i64 of1,.int .i64 tg1],.int .u64 (u v),.int .i64 acc] W (CorE [b,g] b (some ⟨g,0,none⟩) (fun _=>corL { k with pd:=-1 } (.slice (some ⟨g,0,none⟩) H.length cA) sR) H.length cA (fun h=>H.set k.cp h) (fun s=>.tuple #[.int .i64 (rchV fx n v Rs2).1,fltV (rchV fx n v Rs2).2.1,s]) Es2 Ds (rchV fx n v Rs2).2.2 W):=by
 have hlt:k.cp < H.length:=(List.getElem?_eq_some_iff.1 hh).1
 have i0:0≤inA v:=by unfold inA;omega
 have i1:inA v≤63:=by unfold inA;omega
 rcases Bool.eq_false_or_eq_true (fx.k != 0) with hS0 | hS0
 ·exact calls_ex mixedT [⟨b,0,86,corL k (.slice (some ⟨g,0,none⟩) H.length cA) sR,.own⟩,ownFx KT.t 2 (some ⟨g,0,none⟩) H.length cA (rcells KT H)] (.r 1 [(1,.call 26 (fun _=>[.int .u64 (u v)]) (fun _=>.tuple #[.int .i64 (pgA v),.int .i64 (inA v),.int .i64 0]))] (.r 4 [a1 3 0 0,(7,.callg 148 (fun _=>[.pointer (some ⟨b,1,none⟩)]) (fun _=>.pointer (some ⟨blkOf (some ⟨g,0,none⟩),k.cp * 2,none⟩)) [(0,(fun _=>⟨b,0,86,corL k (.slice (some ⟨g,0,none⟩) H.length cA) sR,.own⟩))] [] 4 []),(9,.opc (.load 77 (.tmp 35)) (fun _=>[.pointer (some ⟨blkOf (some ⟨g,0,none⟩),k.cp * 2,none⟩)]) (fun _=>.agg #[.slice fE Es.length cE,.slice fD Ds.length cD]) [(1,(fun _=>ownFx KT.t 2 (some ⟨g,0,none⟩) H.length cA (rcells KT H)))] [] 0 []),aN 10 2 0 3,aN 14 0 3 3,aN 20 0 6 6,(21,.callg 147 (fun _=>[.agg #[.slice k.fW k.lW k.cW],.agg #[.slice fE Es.length cE,.slice fD Ds.length cD],.agg #[.bool on1,.int .i64 of1,.int .i64 tg1],.agg #[.bool k.on2,.int .i64 k.tf,.int .i64 k.tg],.int .i64 (pgA v),.int .i64 acc,.agg #[.int .i64 k.pc,.bool k.pf,.bool k.pm,.bool k.pw,.int .i64 k.pd,.bool k.pu]]) (fun E=>.tuple #[.int .i64 n,fltV fx,.agg #[.slice (E.f 4) Es2.length (E.b 4),.slice (E.f 5) Ds.length (E.b 5)],.slice (E.f 6) Rs2.length (E.b 6),.int .i64 0]) [] [] 4 [fun E=>OwnP KE.t 14 (E.f 4) Es2.length (E.b 4) (rcells KE Es2),fun E=>OwnP KI.t 4 (E.f 5) Ds.length (E.b 5) (rcells KI Ds),fun E=>OwnP 3 1 (E.f 6) Rs2.length (E.b 6) (icells Rs2)]),aN 30 3 0 5,aN 31 7 0 2] (.r 5 [(3,.callg 148 (fun _=>[.pointer (some ⟨b,1,none⟩)]) (fun _=>.pointer (some ⟨blkOf (some ⟨g,0,none⟩),k.cp * 2,none⟩)) [(0,(fun _=>⟨b,0,86,corL k (.slice (some ⟨g,0,none⟩) H.length cA) sR,.own⟩))] [] 8 []),aN 4 7 0 2,(6,.sto (.store 77 (.tmp 59) (.tmp 58)) (fun E=>[.pointer (some ⟨blkOf (some ⟨g,0,none⟩),k.cp * 2,none⟩),.agg #[.slice (E.f 4) Es2.length (E.b 4),.slice (E.f 5) Ds.length (E.b 5)]]) [(1,(fun _=>ownFx KT.t 2 (some ⟨g,0,none⟩) H.length cA (rcells KT H)))] [(1,(fun E=>ownFx KT.t 2 (some ⟨g,0,none⟩) H.length cA (rcells KT (H.set k.cp ⟨E.f 4,Es2.length,E.b 4,E.f 5,Ds.length,E.b 5⟩))))])] (.r 6 [a1 4 0 10] (.r 7 [a1 1 3 0,(2,.rw (fun _=>.bool (fx.k != 0)) (fun _=>.bool true))] (.r 8 [aN 0 3 0 5,aN 3 3 0 5] (.fin [(3,0,5)] (fun E=>.tuple #[.int .i64 0,fltV fx,.slice (E.f 6) Rs2.length (E.b 6)]) [(0,(fun _=>⟨b,0,86,corL { k with pd:=-1 } (.slice (some ⟨g,0,none⟩) H.length cA) sR,.own⟩)),(1,(fun E=>ownFx KT.t 2 (some ⟨g,0,none⟩) H.length cA (rcells KT (H.set k.cp ⟨E.f 4,Es2.length,E.b 4,E.f 5,Ds.length,E.b 5⟩)))),(4,(fun E=>ownFx KE.t 14 (E.f 4) Es2.length (E.b 4) (rcells KE Es2))),(5,(fun E=>ownFx KI.t 4 (E.f 5) Ds.length (E.b 5) (rcells KI Ds))),(6,(fun E=>ownFx 3 1 (E.f 6) Rs2.length (E.b 6) (icells Rs2)))]))))))) Tryz.func111 rfl hF (⟨fun _ W _=>(sat_any v W).mono fun _ _ hJ=>⟨hJ.1.trans (by rw [if_neg (by omega)]),hJ.2⟩,fun E W hk hp=>(sown_any k b g H.length cA _ W hlt (hp.2 rfl).ro).mono fun _ _ hJ=>GPost.quiet hk hJ,fun E W ρ o ho hx hk hp=>ldN_opc ho hx hk Tryz.underlying77 rfl (by kernel_rfl) (hp.1 _ (List.mem_singleton.2 rfl)).2.2.1 (Nat.lt_of_le_of_lt (Nat.zero_le _) hlt) (row_part (rcells_get KT H _ _ hh) 0 2 (by decide) rfl),fun E W hk hp=>(apage_yes (trK k on1 of1 tg1 (pgA v) acc) fE fD cE cD Es Ds W (hE W hk) (hD W hk) hls hms hc hc2 hf hg (hX W hk) hlc hB hz).mono fun e w' h=>page_post hk hp.1 h,fun E W hk hp=>(sown_any k b g H.length cA _ W hlt (hp.2 rfl).ro).mono fun _ _ hJ=>GPost.quiet hk hJ,fun E W ρ o ho hx hk hp=>stK_opc (K:=KT) (L:=H) (j:=k.cp) (q:=(⟨E.f 4,Es2.length,E.b 4,E.f 5,Ds.length,E.b 5⟩:Tlh)) ho hx hk rfl (hp.1 _ (List.mem_singleton.2 rfl)) rfl rfl hlt,fun _=>congrArg Value.bool hS0,fun E W hk hp=>⟨E.f 4,E.b 4,E.f 5,E.b 5,E.f 6,E.b 6,by rw [show rchV fx n v Rs2=_ from rchV_no (by simpa using hS0)],by rw [show rchV fx n v Rs2=_ from rchV_no (by simpa using hS0)];exact hp.2 rfl⟩⟩) rfl (fun _=>by kernel_rfl)
 ·have hn:=hn (by simpa using hS0)
  have hw1:IntKind.i64.wrap (n * 64)=n * 64:=IntWalk.i64_in _ (by omega)
  have hw2:IntKind.i64.wrap (n * 64+inA v)=n * 64+inA v:=IntWalk.i64_in _ (by omega)
  exact calls_ex mixedT [⟨b,0,86,corL k (.slice (some ⟨g,0,none⟩) H.length cA) sR,.own⟩,ownFx KT.t 2 (some ⟨g,0,none⟩) H.length cA (rcells KT H)] (.r 1 [(1,.call 26 (fun _=>[.int .u64 (u v)]) (fun _=>.tuple #[.int .i64 (pgA v),.int .i64 (inA v),.int .i64 0]))] (.r 4 [a1 3 0 0,(7,.callg 148 (fun _=>[.pointer (some ⟨b,1,none⟩)]) (fun _=>.pointer (some ⟨blkOf (some ⟨g,0,none⟩),k.cp * 2,none⟩)) [(0,(fun _=>⟨b,0,86,corL k (.slice (some ⟨g,0,none⟩) H.length cA) sR,.own⟩))] [] 4 []),(9,.opc (.load 77 (.tmp 35)) (fun _=>[.pointer (some ⟨blkOf (some ⟨g,0,none⟩),k.cp * 2,none⟩)]) (fun _=>.agg #[.slice fE Es.length cE,.slice fD Ds.length cD]) [(1,(fun _=>ownFx KT.t 2 (some ⟨g,0,none⟩) H.length cA (rcells KT H)))] [] 0 []),aN 10 2 0 3,aN 14 0 3 3,aN 20 0 6 6,(21,.callg 147 (fun _=>[.agg #[.slice k.fW k.lW k.cW],.agg #[.slice fE Es.length cE,.slice fD Ds.length cD],.agg #[.bool on1,.int .i64 of1,.int .i64 tg1],.agg #[.bool k.on2,.int .i64 k.tf,.int .i64 k.tg],.int .i64 (pgA v),.int .i64 acc,.agg #[.int .i64 k.pc,.bool k.pf,.bool k.pm,.bool k.pw,.int .i64 k.pd,.bool k.pu]]) (fun E=>.tuple #[.int .i64 n,fltV fx,.agg #[.slice (E.f 4) Es2.length (E.b 4),.slice (E.f 5) Ds.length (E.b 5)],.slice (E.f 6) Rs2.length (E.b 6),.int .i64 0]) [] [] 4 [fun E=>OwnP KE.t 14 (E.f 4) Es2.length (E.b 4) (rcells KE Es2),fun E=>OwnP KI.t 4 (E.f 5) Ds.length (E.b 5) (rcells KI Ds),fun E=>OwnP 3 1 (E.f 6) Rs2.length (E.b 6) (icells Rs2)]),aN 30 3 0 5,aN 31 7 0 2] (.r 5 [(3,.callg 148 (fun _=>[.pointer (some ⟨b,1,none⟩)]) (fun _=>.pointer (some ⟨blkOf (some ⟨g,0,none⟩),k.cp * 2,none⟩)) [(0,(fun _=>⟨b,0,86,corL k (.slice (some ⟨g,0,none⟩) H.length cA) sR,.own⟩))] [] 8 []),aN 4 7 0 2,(6,.sto (.store 77 (.tmp 59) (.tmp 58)) (fun E=>[.pointer (some ⟨blkOf (some ⟨g,0,none⟩),k.cp * 2,none⟩),.agg #[.slice (E.f 4) Es2.length (E.b 4),.slice (E.f 5) Ds.length (E.b 5)]]) [(1,(fun _=>ownFx KT.t 2 (some ⟨g,0,none⟩) H.length cA (rcells KT H)))] [(1,(fun E=>ownFx KT.t 2 (some ⟨g,0,none⟩) H.length cA (rcells KT (H.set k.cp ⟨E.f 4,Es2.length,E.b 4,E.f 5,Ds.length,E.b 5⟩))))])] (.r 6 [a1 4 0 10] (.r 7 [a1 1 3 0,(2,.rw (fun _=>.bool (fx.k != 0)) (fun _=>.bool false))] (.r 9 [(1,.rw (fun _=>.int .i64 (IntKind.i64.wrap (n * 64))) (fun _=>.int .i64 (n * 64))),(3,.rw (fun _=>.int .i64 (IntKind.i64.wrap ((n * 64)+(inA v)))) (fun _=>.int .i64 (n * 64+inA v))),(8,.opc (.call ⟨.builtin .append,#[(.tmp 74),(.tmp 76)],#[44,44]⟩) (fun E=>[.slice (E.f 6) Rs2.length (E.b 6),.slice (some ⟨E.b 8,0,none⟩) 1 1]) (fun E=>.slice (E.f 9) (Rs2++[n]).length (E.b 9)) [(6,(fun E=>ownFx 3 1 (E.f 6) Rs2.length (E.b 6) (icells Rs2))),(8,(fun E=>⟨E.b 8,0,3,[.int .i64 n],.own⟩))] [(6,fun _=>noBx)] 9 [fun E=>OwnP 3 1 (E.f 9) (Rs2++[n]).length (E.b 9) (icells (Rs2++[n]))]),aN 10 3 0 5] (.fin [(3,0,5)] (fun E=>.tuple #[.int .i64 (n * 64+inA v),fltV flt0,.slice (E.f 9) (Rs2++[n]).length (E.b 9)]) [(0,(fun _=>⟨b,0,86,corL { k with pd:=-1 } (.slice (some ⟨g,0,none⟩) H.length cA) sR,.own⟩)),(1,(fun E=>ownFx KT.t 2 (some ⟨g,0,none⟩) H.length cA (rcells KT (H.set k.cp ⟨E.f 4,Es2.length,E.b 4,E.f 5,Ds.length,E.b 5⟩)))),(4,(fun E=>ownFx KE.t 14 (E.f 4) Es2.length (E.b 4) (rcells KE Es2))),(5,(fun E=>ownFx KI.t 4 (E.f 5) Ds.length (E.b 5) (rcells KI Ds))),(9,(fun E=>ownFx 3 1 (E.f 9) (Rs2++[n]).length (E.b 9) (icells (Rs2++[n]))))]))))))) Tryz.func111 rfl hF (⟨fun _ W _=>(sat_any v W).mono fun _ _ hJ=>⟨hJ.1.trans (by rw [if_neg (by omega)]),hJ.2⟩,fun E W hk hp=>(sown_any k b g H.length cA _ W hlt (hp.2 rfl).ro).mono fun _ _ hJ=>GPost.quiet hk hJ,fun E W ρ o ho hx hk hp=>ldN_opc ho hx hk Tryz.underlying77 rfl (by kernel_rfl) (hp.1 _ (List.mem_singleton.2 rfl)).2.2.1 (Nat.lt_of_le_of_lt (Nat.zero_le _) hlt) (row_part (rcells_get KT H _ _ hh) 0 2 (by decide) rfl),fun E W hk hp=>(apage_yes (trK k on1 of1 tg1 (pgA v) acc) fE fD cE cD Es Ds W (hE W hk) (hD W hk) hls hms hc hc2 hf hg (hX W hk) hlc hB hz).mono fun e w' h=>page_post hk hp.1 h,fun E W hk hp=>(sown_any k b g H.length cA _ W hlt (hp.2 rfl).ro).mono fun _ _ hJ=>GPost.quiet hk hJ,fun E W ρ o ho hx hk hp=>stK_opc (K:=KT) (L:=H) (j:=k.cp) (q:=(⟨E.f 4,Es2.length,E.b 4,E.f 5,Ds.length,E.b 5⟩:Tlh)) ho hx hk rfl (hp.1 _ (List.mem_singleton.2 rfl)) rfl rfl hlt,fun _=>congrArg Value.bool hS0,fun _=>by rw [hw1],fun _=>by rw [hw2],fun E W ρ o ho hx hk hp=>pushN_opc ho hx hk hp.1 rfl (by omega),fun E W hk hp=>⟨E.f 4,E.b 4,E.f 5,E.b 5,E.f 9,E.b 9,by rw [show rchV fx n v Rs2=_ from rchV_yes (by simpa using hS0)],by rw [show rchV fx n v Rs2=_ from rchV_yes (by simpa using hS0)];exact hp.2 rfl⟩⟩) rfl (fun _=>by kernel_rfl)
end Go.Proofs.YtlgpdbgingjpbaaGreat
