/- Stage 14: the reference's walker.mid: plainly,and its contract. Stage 14: the reference's walker.stage: plainly,and its contract. Stage 14: the reference's Page: plainly,and its contract. What a page leaves,as its caller sees it. -/
import Derived.Test.YtlgpdbgingjpbaaGreatBl
import Derived.Test.YtlgpdbgingjpbaaGreatNf
set_option linter.all false
namespace Go.Proofs.YtlgpdbgingjpbaaGreat
section
open Go.ChangeShapes Go.WideShapes Go.ChangeAt Go.RowKit Go.Deep
theorem row_part {xs:List Value} {V:Array Value} {a N:Nat} (h:∀ i,i < N→xs[a+i]?=V[i]?) (o n:Nat) (hs:o+n≤N) (hN:N=V.size):∀ j u,((V.toList.drop o).take n)[j]?=some u→xs[a+o+j]?=some u:=fun j u hj=>by
 rw [List.getElem?_take] at hj
 split at hj
 ·rw [List.getElem?_drop,Array.getElem?_toList] at hj
  rw [Nat.add_assoc,h (o+j) (by omega)]
  exact hj
 ·cases hj
def MidEnd (ft:List Nat) (W:World) (b:Nat) (t:TypeId) (mk:Value→Value→Value→List Value) (v:Value) (Es:List Ety) (Ds:List Inv) (Rs:List Int) (e:Ending) (w':World):Prop:=
 ∃ fE cE fD cD fR cR,e=.returned v∧Fits ft W [⟨b,0,t,mk (.slice fE Es.length cE) (.slice fD Ds.length cD) (.slice fR Rs.length cR),.own⟩,ownFx KE.t 14 fE Es.length cE (rcells KE Es),ownFx KI.t 4 fD Ds.length cD (rcells KI Ds),ownFx 3 1 fR Rs.length cR (icells Rs)] w'
abbrev ft4 (b:Nat) (fE fD fR:Option Addr):List Nat:=b :: ((fE.map (·.block)).toList++(fD.map (·.block)).toList++(fR.map (·.block)).toList)
structure WkS where
 E:List Ety
 R:List Int
def plainA (t:Atr):Atr:=⟨t.r,t.w,t.x,t.a,t.n,0⟩
def midW (l:Nat) (X:Nat→BitVec 64) (tf tg:Int) (mids use:Bool) (s:WkS) (mid acc:Int):(Int×Atr×Flt)×WkS:=
 if use=true∧0≤mid9 s.E tg mid acc then (((s.E.getD (mid9 s.E tg mid acc).toNat ent0).fr,(s.E.getD (mid9 s.E tg mid acc).toNat ent0).t,flt0),s)
 else if (midD l X true tf mid acc).2.1.k≠0 then ((0,atr0,(midD l X true tf mid acc).2.1),⟨s.E,s.R++(midD l X true tf mid acc).2.2⟩)
 else (((midD l X true tf mid acc).1.f,plainA (midD l X true tf mid acc).1.t,(midD l X true tf mid acc).2.1),
  ⟨if mids=true then fill9 s.E ⟨2,tg,0,true,mid,0,(midD l X true tf mid acc).1.f,0,plainA (midD l X true tf mid acc).1.t⟩ else s.E,s.R++(midD l X true tf mid acc).2.2⟩)
theorem midD_short (l:Nat) (X:Nat→BitVec 64) (tf mid acc:Int) (h0:0≤tf) (hp:0≤mid):(midD l X true tf mid acc).2.2.length≤4:=by
 have h:=(walk_cases l X 2 tf mid h0 hp).1
 unfold midD
 rw [if_neg (by decide)]
 split
 ·split
  ·exact h
  ·exact h
 ·exact h
theorem placeE_at {p:Ety→Bool}:∀ (L:List Ety) (k:Int),0≤k→0≤placeE p L k→k≤placeE p L k∧placeE p L k < k+L.length
 | [],k,_,h=>by
  simp [placeE] at h
 | x :: L,k,hk,h=>by
  cases hp:p x with
  | true=>
   rw [placeE_yes hp]
   simp only [List.length_cons]
   omega
  | false=>
   rw [placeE_no hp] at h ⊢
   have:=placeE_at L (k+1) (by omega) h
   simp only [List.length_cons]
   omega
theorem mid_post {t:TypeId} {ft0:List Nat} {w0 W w':World} {k:Nat} {E:Env} {e:Ending} {b iW iE iD iR:Nat} {cs:List Value} {fE fD fR:Option Addr} {nE cE nD cD:Nat} {xsE xsD:List Value} {xW xE xD xR xW':Env→Bx} {gE gD gR:Env→FV} {mk:Value→Value→Value→List Value} {v:Value} {Es:List Ety} {Ds:List Inv} {Rs:List Int} {rest:BL}
  (hk:Keep ft0 w0 W) (hp:∀ p∈(iW,xW) :: (iE,xE) :: (iD,xD) :: (iR,xR) :: rest,(p.2 E).Holds ft0 w0 W)
  (h:MidEnd (b :: ((fE.map (·.block)).toList++(fD.map (·.block)).toList++(fR.map (·.block)).toList)) W b t mk v Es Ds Rs e w')
  (hd:iW≠iE∧iW≠iD∧iW≠iR:=by decide) (hr:∀ p∈rest,p.1≠iW:=by simp)
  (hW:xW E=⟨b,0,t,cs,.own⟩:=by rfl) (hE:xE E=ownFx KE.t 14 fE nE cE xsE:=by rfl) (hD:xD E=ownFx KI.t 4 fD nD cD xsD:=by rfl) (hR:(xR E).fp=(fun c=>fR.map (fun x:Addr=>x.block)=some c):=by rfl)
  (hW':∀ q,xW' (envN [gE,gD,gR] E k q)=⟨b,0,t,mk (.slice (q k).2 Es.length (q k).1) (.slice (q (k+1)).2 Ds.length (q (k+1)).1) (.slice (q (k+2)).2 Rs.length (q (k+2)).1),.own⟩:=by exact fun _=>rfl)
  (hE':∀ q,gE (envN [gE,gD,gR] E k q)=OwnP KE.t 14 (q k).2 Es.length (q k).1 (rcells KE Es):=by exact fun _=>rfl) (hD':∀ q,gD (envN [gE,gD,gR] E k q)=OwnP KI.t 4 (q (k+1)).2 Ds.length (q (k+1)).1 (rcells KI Ds):=by exact fun _=>rfl)
  (hR':∀ q,gR (envN [gE,gD,gR] E k q)=OwnP 3 1 (q (k+2)).2 Rs.length (q (k+2)).1 (icells Rs):=by exact fun _=>rfl) :
  ∃ q,GPost ft0 w0 k (fun _=>v) ((iW,xW) :: (iE,xE) :: (iD,xD) :: (iR,xR) :: rest) [(iW,xW'),(iE,fun _=>noBx),(iD,fun _=>noBx),(iR,fun _=>noBx)] [gE,gD,gR] E W e w' q:=by
 obtain ⟨aE,kE,aD,kD,aR,kR,he,hF⟩:=h
 have q0:(fun i=>if i=k then (kE,aE) else if i=k+1 then (kD,aD) else (kR,aR):Sup) k=(kE,aE):=if_pos rfl
 have q1:(fun i=>if i=k then (kE,aE) else if i=k+1 then (kD,aD) else (kR,aR):Sup) (k+1)=(kD,aD):=(if_neg (by omega)).trans (if_pos rfl)
 have q2:(fun i=>if i=k then (kE,aE) else if i=k+1 then (kD,aD) else (kR,aR):Sup) (k+2)=(kR,aR):=(if_neg (by omega)).trans (if_neg (by omega))
 generalize (fun i=>if i=k then (kE,aE) else if i=k+1 then (kD,aD) else (kR,aR):Sup)=q at *
 have hW':=hW' q
 have hE':=hE' q
 have hD':=hD' q
 have hR':=hR' q
 rw [q0,q1,q2] at hW'
 rw [q0] at hE'
 rw [q1] at hD'
 rw [q2] at hR'
 refine GPost.fin (ft:=b :: ((fE.map (·.block)).toList++(fD.map (·.block)).toList++(fR.map (·.block)).toList)) q hk hp (fun x hx=>?_) (fun p hpp p' hp' hi=>?_) he ?_
 ·simp only [List.mem_cons,List.mem_append,Option.mem_toList] at hx
  rcases hx with rfl | (hx | hx) | hx
  ·exact ⟨(iW,xW),by simp,fp_of hW rfl,by simp⟩
  ·exact ⟨(iE,xE),by simp,fp_of hE hx,by simp⟩
  ·exact ⟨(iD,xD),by simp,fp_of hD hx,by simp⟩
  ·exact ⟨(iR,xR),by simp,(congrFun hR _).mpr hx,by simp⟩
 ·simp only [List.mem_cons,List.not_mem_nil,or_false] at hpp hp'
  rcases hp' with rfl | rfl | rfl | rfl
  ·rcases hpp with rfl | rfl | rfl | rfl | hpp
   ·exact Or.inr ((congrArg Bx.fp hW').trans (congrArg Bx.fp hW).symm)
   ·exact absurd hi hd.1
   ·exact absurd hi hd.2.1
   ·exact absurd hi hd.2.2
   ·exact absurd hi.symm (hr _ hpp)
  ·exact Or.inl rfl
  ·exact Or.inl rfl
  ·exact Or.inl rfl
 ·have hno:∀ {ft:List Nat} {w1 w2:World} {x y1 y2 y3:Bx},Fits ft w1 [x,y1,y2,y3] w2→Fits ft w1 [x,noBx,noBx,noBx,y1,y2,y3] w2:=fun {ft w1 w2 x y1 y2 y3} H=>by
   have key:∀ (i:Nat) (z:Bx),[x,noBx,noBx,noBx,y1,y2,y3][i]?=some z→z=noBx∨∃ i',[x,y1,y2,y3][i']?=some z∧i=(if i'=0 then 0 else i'+3):=fun i z hz=>by
    match i with
    | 0=>exact Or.inr ⟨0,hz,rfl⟩
    | 1=>exact Or.inl (Option.some.inj hz).symm
    | 2=>exact Or.inl (Option.some.inj hz).symm
    | 3=>exact Or.inl (Option.some.inj hz).symm
    | 4=>exact Or.inr ⟨1,hz,rfl⟩
    | 5=>exact Or.inr ⟨2,hz,rfl⟩
    | 6=>exact Or.inr ⟨3,hz,rfl⟩
    | n+7=>simp at hz
   refine ⟨H.keep,fun i z hz=>?_,fun i j z u hz hu hij c hc hcu=>?_⟩
   ·rcases key i z hz with rfl | ⟨i',h1,_⟩
    ·rfl
    ·exact H.all i' z h1
   ·rcases key i z hz with rfl | ⟨i',h1,e1⟩
    ·cases hc
    ·rcases key j u hu with rfl | ⟨j',h2,e2⟩
     ·cases hcu
     ·exact H.ne i' j' z u h1 h2 (fun e=>hij (by rw [e1,e2,e])) c hc hcu
  have hG:=hno hF
  show Fits _ W [xW' (envN [gE,gD,gR] E k q),noBx,noBx,noBx,factB q (envN [gE,gD,gR] E k q) k gE,factB q (envN [gE,gD,gR] E k q) (k+1) gD,factB q (envN [gE,gD,gR] E k q) (k+1+1) gR] w'
  unfold factB
  rw [hW',hE',hD',hR',q0,q1,show k+1+1=k+2 from rfl,q2]
  exact hG
end
section
open Go.ChangeShapes Go.WideShapes Go.ChangeAt Go.RowKit Go.Deep
structure AcW where
 l:Nat
 X:Nat→BitVec 64
 of1:Int
 tg1:Int
 tf:Int
 tg:Int
 pf:Bool
 pm:Bool
 pw:Bool
 pu:Bool
def AcW.mid (a:AcW) (s:WkS) (mid acc:Int):(Int×Atr×Flt)×WkS:=midW a.l a.X a.tf a.tg a.pm a.pu s mid acc
def fltW (f:Flt):Flt:=⟨f.k,f.st,f.lv,true,f.p⟩
def tabA (a:AcW) (pg lv fr mid:Int) (s:WkS):(Int×Flt)×WkS:=
 if fr < 0 then
  (if (a.mid s mid 0).1.2.2.k≠0 then ((0,fltW (a.mid s mid 0).1.2.2),(a.mid s mid 0).2)
  else (((a.mid s mid 0).1.1,flt0),if (decide (lv > 0)&&a.pw)=true then ⟨fill9 (a.mid s mid 0).2.E ⟨3,a.tg,a.tg1,false,pg - pg % cov (lv - 1),lv,(a.mid s mid 0).1.1,0,atr0⟩,(a.mid s mid 0).2.R⟩ else (a.mid s mid 0).2))
 else ((fr,flt0),s)
abbrev AcR:=(Int×Flt)×WkS
def dscA (a:AcW) (pg acc:Int) (next:Int→WkS→AcR) (lv fr:Int) (s:WkS):AcR:=
 if (tblD a.X 1 lv fr pg).k=1 then next (tblD a.X 1 lv fr pg).f s
 else if (tblD a.X 1 lv fr pg).k=0 then ((0,⟨2,1,lv,false,pg⟩),s)
 else if (flagA (tblD a.X 1 lv fr pg).at' acc 1 lv pg).k≠0 then ((0,flagA (tblD a.X 1 lv fr pg).at' acc 1 lv pg),s)
 else if (a.mid s ((tblD a.X 1 lv fr pg).f+pg % cov lv) acc).1.2.2.k≠0 then ((0,(a.mid s ((tblD a.X 1 lv fr pg).f+pg % cov lv) acc).1.2.2),(a.mid s ((tblD a.X 1 lv fr pg).f+pg % cov lv) acc).2)
 else (((a.mid s ((tblD a.X 1 lv fr pg).f+pg % cov lv) acc).1.1,flt0),
  if a.pf=true then ⟨fill9 (a.mid s ((tblD a.X 1 lv fr pg).f+pg % cov lv) acc).2.E ⟨1,a.tg,a.tg1,!(bothL [(tblD a.X 1 lv fr pg).at',(a.mid s ((tblD a.X 1 lv fr pg).f+pg % cov lv) acc).1.2.1]).n,pg,0,(a.mid s ((tblD a.X 1 lv fr pg).f+pg % cov lv) acc).1.1,(tblD a.X 1 lv fr pg).f+pg % cov lv,bothL [(tblD a.X 1 lv fr pg).at',(a.mid s ((tblD a.X 1 lv fr pg).f+pg % cov lv) acc).1.2.1]⟩,(a.mid s ((tblD a.X 1 lv fr pg).f+pg % cov lv) acc).2.R⟩ else (a.mid s ((tblD a.X 1 lv fr pg).f+pg % cov lv) acc).2)
def stageA (a:AcW) (pg acc:Int):Nat→Int→Int→Int→WkS→AcR
 | 0,_,_,_,s=>((0,flt0),s)
 | n+1,lv,fr,mid,s=>
  if (tabA a pg lv fr mid s).1.2.k≠0 then ((0,(tabA a pg lv fr mid s).1.2),(tabA a pg lv fr mid s).2)
  else dscA a pg acc (fun mid s=>stageA a pg acc n (lv+1) (-1) mid s) lv (tabA a pg lv fr mid s).1.1 ⟨(tabA a pg lv fr mid s).2.E,(tabA a pg lv fr mid s).2.R++[(tabA a pg lv fr mid s).1.1]⟩
def GoodE (l:Nat) (E:List Ety):Prop:=∀ e∈E,0≤e.fr∧e.fr * 8+8≤l
theorem GoodE.fill {l:Nat} {E:List Ety} {e:Ety} (h:GoodE l E) (h0:0≤e.fr) (h1:e.fr * 8+8≤l):GoodE l (fill9 E e):=by
 unfold fill9
 split
 ·intro x hx
  rcases List.mem_append.1 hx with hx | hx
  ·exact h x hx
  ·obtain rfl:=List.mem_singleton.1 hx
   exact ⟨h0,h1⟩
 ·exact h
theorem midD_frame (l:Nat) (X:Nat→BitVec 64) (tf mid acc:Int) (h0:0≤tf) (hp:0≤mid) (hk:(midD l X true tf mid acc).2.1.k=0):0≤(midD l X true tf mid acc).1.f∧(midD l X true tf mid acc).1.f * 8+8≤l:=by
 have h:=(walk_cases l X 2 tf mid h0 hp).2.2
 unfold midD at hk ⊢
 rw [if_neg (by decide)] at hk ⊢
 split at hk<;>rename_i h1
 ·rw [if_pos h1]
  split at hk<;>rename_i h2
  ·rw [if_pos h2]
   rcases h with h | h
   ·simp only
    omega
   ·exact absurd h1 h.1
  ·exact absurd hk h2
 ·exact absurd hk h1
theorem cover4 {b:Nat} {t eE eD eR:TypeId} {cs xE xD xR:List Value} {sE sD sR nE nD nR cE cD cR:Nat} {fE fD fR:Option Addr}:∀ (i:Nat) (x:Bx),[⟨b,0,t,cs,.own⟩,ownFx eE sE fE nE cE xE,ownFx eD sD fD nD cD xD,ownFx eR sR fR nR cR xR][i]?=some x→∀ b',x.fp b'→b'∈ft4 b fE fD fR:=fun i x hi b' hb=>by
 simp only [List.mem_cons,List.mem_append,Option.mem_toList]
 rcases i with _ | _ | _ | _ | i
 ·obtain rfl:=Option.some.inj hi
  obtain rfl:=Option.some.inj hb
  exact Or.inl rfl
 ·obtain rfl:=Option.some.inj hi
  exact Or.inr (Or.inl (Or.inl hb))
 ·obtain rfl:=Option.some.inj hi
  exact Or.inr (Or.inl (Or.inr hb))
 ·obtain rfl:=Option.some.inj hi
  exact Or.inr (Or.inr hb)
 ·simp at hi
theorem cov4 {ft:List Nat} {w0 W:World} {b:Nat} {t eE eD eR:TypeId} {cs xE xD xR:List Value} {sE sD sR nE nD nR cE cD cR:Nat} {fE fD fR:Option Addr} (H:Fits ft w0 [⟨b,0,t,cs,.own⟩,ownFx eE sE fE nE cE xE,ownFx eD sD fD nD cD xD,ownFx eR sR fR nR cR xR] W):∀ x∈ft4 b fE fD fR,x∈ft∨w0.heap.size≤x:=fun x hx=>by
 simp only [List.mem_cons,List.mem_append,Option.mem_toList] at hx
 rcases hx with rfl | (hx | hx) | hx
 ·exact (H.all 0 _ rfl).fpl rfl
 ·exact (H.all 1 _ rfl).fpl hx
 ·exact (H.all 2 _ rfl).fpl hx
 ·exact (H.all 3 _ rfl).fpl hx
end
section
open Go.ChangeShapes Go.WideShapes Go.ChangeAt Go.RowKit Go.Deep
theorem walkF_is {p:Ety→Bool}:∀ (L:List Ety) (k a v:Int),0≤k→walkF p L k a v=a∨∃ i x,L[i]?=some x∧p x=true∧walkF p L k a v=k+(i:Nat)
 | [],_,_,_,_=>Or.inl rfl
 | x :: L,k,a,v,hk=>by
  unfold walkF
  split
  ·rename_i h
   simp only [Bool.and_eq_true] at h
   rcases walkF_is L (k+1) k x.lv (by omega) with h2 | ⟨i,y,h2,h3,h4⟩
   ·exact Or.inr ⟨0,x,rfl,h.1,by rw [h2];simp⟩
   ·exact Or.inr ⟨i+1,y,by simpa using h2,h3,by rw [h4];omega⟩
  ·rcases walkF_is L (k+1) a v (by omega) with h2 | ⟨i,y,h2,h3,h4⟩
   ·exact Or.inl h2
   ·exact Or.inr ⟨i+1,y,by simpa using h2,h3,by rw [h4];omega⟩
def OkE (l:Nat) (E:List Ety):Prop:=GoodE l E∧∀ e∈E,e.k=3→1≤e.lv∧e.lv≤3
def dropA (E:List Ety) (pd:Int):List Ety:=if (decide (pd≥0)&&decide (pd < E.length))=true then drop9 E pd.toNat else E
def pageA (a:AcW) (on1:Bool) (E:List Ety) (pg acc pd:Int):AcR:=
 if on1=false then (((a.mid ⟨dropA E pd,[]⟩ pg acc).1.1,(a.mid ⟨dropA E pd,[]⟩ pg acc).1.2.2),(a.mid ⟨dropA E pd,[]⟩ pg acc).2)
 else if a.pu=true∧0≤whole9 (dropA E pd) a.tg a.tg1 pg acc then ((((dropA E pd).getD (whole9 (dropA E pd) a.tg a.tg1 pg acc).toNat ent0).fr,flt0),⟨dropA E pd,[]⟩)
 else if a.pu=true∧0≤walk9 (dropA E pd) a.tg a.tg1 pg then
  stageA a pg acc ((3 - ((dropA E pd).getD (walk9 (dropA E pd) a.tg a.tg1 pg).toNat ent0).lv).toNat+1) ((dropA E pd).getD (walk9 (dropA E pd) a.tg a.tg1 pg).toNat ent0).lv ((dropA E pd).getD (walk9 (dropA E pd) a.tg a.tg1 pg).toNat ent0).fr a.of1 ⟨dropA E pd,[]⟩
 else stageA a pg acc 4 0 (-1) a.of1 ⟨dropA E pd,[]⟩
theorem OkE.drop {l:Nat} {E:List Ety} (h:OkE l E) (pd:Int):OkE l (dropA E pd):=by
 have key:∀ e∈dropA E pd,e∈E:=fun e he=>by
  unfold dropA at he
  split at he
  ·unfold drop9 at he
   rcases List.mem_append.1 he with he | he
   ·exact List.mem_of_mem_take he
   ·exact List.mem_of_mem_drop he
  ·exact he
 exact ⟨fun e he=>h.1 e (key e he),fun e he=>h.2 e (key e he)⟩
def PageEnd (W:World) (v:Value→Value→Value) (Es:List Ety) (Ds:List Inv) (Rs:List Int) (e:Ending) (w':World):Prop:=
 ∃ fE cE fD cD fR cR,e=.returned (v (.agg #[.slice fE Es.length cE,.slice fD Ds.length cD]) (.slice fR Rs.length cR))∧Fits [] W [ownFx KE.t 14 fE Es.length cE (rcells KE Es),ownFx KI.t 4 fD Ds.length cD (rcells KI Ds),ownFx 3 1 fR Rs.length cR (icells Rs)] w'
end
section
open Go.ChangeShapes Go.WideShapes Go.ChangeAt Go.RowKit Go.Deep
theorem page_post {ft:List Nat} {w0 W w':World} {k:Nat} {pre:BL} {E:Env} {e:Ending} {v:Value→Value→Value} {Es:List Ety} {Ds:List Inv} {Rs:List Int} (hk:Keep ft w0 W) (hp:∀ p∈pre,(p.2 E).Holds ft w0 W) (h:PageEnd W v Es Ds Rs e w') :
  ∃ q,GPost ft w0 k (fun E=>v (.agg #[.slice (E.f k) Es.length (E.b k),.slice (E.f (k+1)) Ds.length (E.b (k+1))]) (.slice (E.f (k+2)) Rs.length (E.b (k+2)))) pre [] [fun E=>OwnP KE.t 14 (E.f k) Es.length (E.b k) (rcells KE Es),fun E=>OwnP KI.t 4 (E.f (k+1)) Ds.length (E.b (k+1)) (rcells KI Ds),fun E=>OwnP 3 1 (E.f (k+2)) Rs.length (E.b (k+2)) (icells Rs)] E W e w' q:=by
 obtain ⟨aE,kE,aD,kD,aR,kR,he,hF⟩:=h
 have q0:(fun i=>if i=k then (kE,aE) else if i=k+1 then (kD,aD) else (kR,aR):Sup) k=(kE,aE):=if_pos rfl
 have q1:(fun i=>if i=k then (kE,aE) else if i=k+1 then (kD,aD) else (kR,aR):Sup) (k+1)=(kD,aD):=(if_neg (by omega)).trans (if_pos rfl)
 have q2:(fun i=>if i=k then (kE,aE) else if i=k+1 then (kD,aD) else (kR,aR):Sup) (k+2)=(kR,aR):=(if_neg (by omega)).trans (if_neg (by omega))
 generalize (fun i=>if i=k then (kE,aE) else if i=k+1 then (kD,aD) else (kR,aR):Sup)=q at *
 have f0:∀ a b c,(((E.set k a).set (k+1) b).set (k+2) c).e k=a:=fun a b c=>by rw [set_ne _ _ _ _ (by omega),set_ne _ _ _ _ (by omega),set_at]
 have f1:∀ a b c,(((E.set k a).set (k+1) b).set (k+2) c).e (k+1)=b:=fun a b c=>by rw [set_ne _ _ _ _ (by omega),set_at]
 have f2:∀ a b c,(((E.set k a).set (k+1) b).set (k+2) c).e (k+2)=c:=fun a b c=>set_at _ _ _
 refine GPost.fin (ft:=[]) q hk hp (fun x hx=>by cases hx) (fun p _ p' hp'=>by cases hp') ?_ ?_
 ·rw [he]
  simp only [envN,Env.f,Env.b,show k+1+1=k+2 from rfl,q0,q1,q2,f0,f1,f2]
 ·show Fits [] W [factB q _ k _,factB q _ (k+1) _,factB q _ (k+1+1) _] w'
  unfold factB
  simp only [envN,Env.f,Env.b,show k+1+1=k+2 from rfl,q0,q1,q2,f0,f1,f2]
  exact hF
end
end Go.Proofs.YtlgpdbgingjpbaaGreat
