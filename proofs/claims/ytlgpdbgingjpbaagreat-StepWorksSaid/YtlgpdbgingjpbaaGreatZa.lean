/- What the program finds,and where the page's own finds it: plainly. What a TLB may be,by its entries: each may be,none is there twice. Stage 14: an access,as the landed package goes about it: plainly;it is the page's own. -/
import Derived.Test.YtlgpdbgingjpbaaGreatVc
import Derived.Test.YtlgpdbgingjpbaaGreatZp
import Derived.Test.YtlgpdbgingjpbaaGreatMemE
set_option linter.all false
namespace Go.Proofs.YtlgpdbgingjpbaaGreat
section
open Go.ChangeShapes Go.WideShapes Go.ChangeAt Go.RowKit Go.Deep
theorem fnd_place (p q:Ety→Bool):∀ (L:List Ety) (k:Int),(∀ x∈L,p x=q x)→(placeE p L k=-1∧fndE q L=(ent0,3))∨∃ (i:Nat) (y:Ety),L[i]?=some y∧placeE p L k=k+(i:Int)∧fndE q L=(y,0)
 | [],_,_=>.inl ⟨rfl,rfl⟩
 | x :: L,k,h=>by
  have hx:=h x (List.mem_cons_self ..)
  unfold placeE fndE
  cases hp:p x
  ·rw [← hx,hp,if_neg (by decide),if_neg (by decide)]
   rcases fnd_place p q L (k+1) (fun y hy=>h y (List.mem_cons_of_mem _ hy)) with h1 | ⟨i,y,h1,h2,h3⟩
   ·exact .inl h1
   ·exact .inr ⟨i+1,y,by simpa using h1,by rw [h2];push_cast;omega,h3⟩
  ·rw [← hx,hp,if_pos rfl,if_pos rfl]
   exact .inr ⟨0,x,rfl,by simp,rfl⟩
def is4 (vm sp pg acc:Int):Bool:=(numB vm 15&&numB pg 4095)&&numB sp 15&&numB acc 2
def is5 (vm pg acc:Int):Bool:=(numB vm 15&&numB pg 4095)&&numB acc 2
def is6 (vm sp pg:Int):Bool:=(numB vm 15&&numB pg 4095)&&numB sp 15
theorem pl4 (vm sp pg acc:Int):(numB acc 2&&mayPl vm sp pg)=is4 vm sp pg acc:=by
 unfold mayPl is4
 cases numB acc 2<;>cases numB vm 15<;>cases numB sp 15<;>cases numB pg 4095<;>rfl
theorem pl5 (vm pg acc:Int):(numB acc 2&&mayPl vm 0 pg)=is5 vm pg acc:=by
 have h0:numB 0 15=true:=rfl
 unfold mayPl is5
 rw [h0]
 cases numB acc 2<;>cases numB vm 15<;>cases numB pg 4095<;>rfl
theorem pl6 (vm sp pg:Int):mayPl vm sp pg=is6 vm sp pg:=by
 unfold mayPl is6
 cases numB vm 15<;>cases numB sp 15<;>cases numB pg 4095<;>rfl
section
variable {E:List Ety} {D:List Inv} {vm sp pg acc:Int}
theorem look4 (h:mayT E D=true) (h2:is4 vm sp pg acc=true):(placeE (isWh vm sp pg acc) E 0=-1∧firstR E D 1 vm sp pg acc=(ent0,3))∨∃ (i:Nat) (y:Ety),E[i]?=some y∧placeE (isWh vm sp pg acc) E 0=(i:Int)∧firstR E D 1 vm sp pg acc=(y,0):=by
 unfold firstR
 rw [pl4,h,h2]
 have hp:∀ x∈E,isWh vm sp pg acc x=fitsE 1 vm sp pg acc x:=fun x _=>by
  unfold isWh fitsE isE ofE foE
  by_cases hk:x.k=1
  ·have h3:¬ x.k=3:=by omega
   rw [if_neg h3]
   simp only [Bool.and_assoc]
  ·rw [decide_eq_false hk]
   rfl
 rcases fnd_place _ _ E 0 hp with h1 | ⟨i,y,h1,h3,h4⟩
 ·exact .inl h1
 ·exact .inr ⟨i,y,h1,by rw [h3,Int.zero_add],h4⟩
theorem look5 (h:mayT E D=true) (h2:is5 vm pg acc=true):(placeE (isMd vm pg acc) E 0=-1∧firstR E D 2 vm 0 pg acc=(ent0,3))∨∃ (i:Nat) (y:Ety),E[i]?=some y∧placeE (isMd vm pg acc) E 0=(i:Int)∧firstR E D 2 vm 0 pg acc=(y,0):=by
 have hm:=mayT_may h
 unfold firstR
 rw [pl5,h,h2]
 have hp:∀ x∈E,isMd vm pg acc x=fitsE 2 vm 0 pg acc x:=fun x hx=>by
  have hx:=hm x hx
  unfold isMd fitsE isE foE
  by_cases hk:x.k=2
  ·have h3:¬ x.k=3:=by omega
   rw [mayEn_two] at hx
   unfold kindE at hx
   rw [if_neg (by omega),if_pos hk] at hx
   simp only [Bool.and_eq_true] at hx
   rw [if_neg h3,hx.2.2.1]
   simp only [Bool.true_or,Bool.true_and,Bool.and_assoc]
  ·rw [decide_eq_false hk]
   rfl
 rcases fnd_place _ _ E 0 hp with h1 | ⟨i,y,h1,h3,h4⟩
 ·exact .inl h1
 ·exact .inr ⟨i,y,h1,by rw [h3,Int.zero_add],h4⟩
end
theorem deep_walk (vm sp pg:Int) (E:List Ety):∀ (L:List Ety) (k:Nat) (a v:Int) (y:Ety),E.drop k=L→(∀ x∈L,x.k=3→1≤x.lv)→
  ((a=-1∧v=0∧y=ent0)∨∃ i:Nat,a=(i:Int)∧E[i]?=some y∧v=y.lv∧1≤y.lv)→
  ((walkF (isWk vm sp pg) L k a v=-1∧deepF (isE vm sp pg) L y=ent0)∨∃ (i:Nat) (z:Ety),walkF (isWk vm sp pg) L k a v=(i:Int)∧E[i]?=some z∧deepF (isE vm sp pg) L y=z∧1≤z.lv)
 | [],k,a,v,y,_,_,h=>by
  unfold walkF deepF
  rcases h with ⟨h1,_,h3⟩ | ⟨i,h1,h2,_,h4⟩
  ·exact .inl ⟨h1,h3⟩
  ·exact .inr ⟨i,y,h1,h2,rfl,h4⟩
 | x :: L,k,a,v,y,hd,hl,h=>by
  have hk:E[k]?=some x:=by
   have:=congrArg (fun l=>l[0]?) hd
   simpa using this
  have hd2:E.drop (k+1)=L:=by
   have:=congrArg List.tail hd
   simpa [List.tail_drop] using this
  have hwk:isWk vm sp pg x=(decide (x.k=3)&&isE vm sp pg x):=by
   unfold isWk isE ofE foE
   by_cases h3:x.k=3
   ·rw [if_pos h3]
    simp only [Bool.and_assoc]
   ·rw [decide_eq_false h3]
    rfl
  have hl2:∀ z∈L,z.k=3→1≤z.lv:=fun z hz=>hl z (List.mem_cons_of_mem _ hz)
  have hx:=hl x (List.mem_cons_self ..)
  have hc:(isWk vm sp pg x&&(decide (a < 0)||decide (v < x.lv)))=(decide (x.k=3)&&(decide (y.lv < x.lv)&&isE vm sp pg x)):=by
   rw [hwk]
   by_cases h3:x.k=3
   ·have h4:=hx h3
    have h5:(decide (a < 0)||decide (v < x.lv))=decide (y.lv < x.lv):=by
     rcases h with ⟨h1,h2,h6⟩ | ⟨i,h1,_,h6,h7⟩
     ·subst h6
      have e:ent0.lv=0:=rfl
      rw [decide_eq_true (show a < 0 by omega),decide_eq_true (show ent0.lv < x.lv by rw [e];omega)]
      rfl
     ·rw [decide_eq_false (show ¬ a < 0 by omega),h6]
      rfl
    rw [h5,decide_eq_true h3]
    cases isE vm sp pg x<;>cases decide (y.lv < x.lv)<;>rfl
   ·rw [decide_eq_false h3]
    rfl
  unfold walkF deepF
  rw [hc]
  split
  ·rename_i hy
   simp only [Bool.and_eq_true,decide_eq_true_eq] at hy
   have:=deep_walk vm sp pg E L (k+1) k x.lv x hd2 hl2 (.inr ⟨k,rfl,hk,rfl,hx hy.1⟩)
   push_cast at this
   exact this
  ·have:=deep_walk vm sp pg E L (k+1) a v y hd2 hl2 h
   push_cast at this
   exact this
theorem look6 {E:List Ety} {D:List Inv} {vm sp pg:Int} (h:mayT E D=true) (h2:is6 vm sp pg=true):(walk9 E vm sp pg=-1∧deepR E D vm sp pg=(ent0,3))∨∃ (i:Nat) (y:Ety),E[i]?=some y∧walk9 E vm sp pg=(i:Int)∧deepR E D vm sp pg=(y,0):=by
 have hm:=mayT_may h
 unfold deepR walk9
 rw [pl6,h,h2]
 rw [show (true&&true)=true from rfl,if_pos rfl]
 rcases deep_walk vm sp pg E E 0 (-1) 0 ent0 (by simp) (fun x hx hk=>(mayEn_lv (hm x hx) hk).1) (.inl ⟨rfl,rfl,rfl⟩) with ⟨h1,h3⟩ | ⟨i,z,h1,h3,h4,h5⟩
 ·refine .inl ⟨h1,?_⟩
  rw [h3]
  rfl
 ·refine .inr ⟨i,z,h3,h1,?_⟩
  rw [h4,if_neg (by omega)]
end
section
open Go.ChangeShapes Go.WideShapes Go.ChangeAt Go.RowKit Go.Deep
theorem allF_iff (E:List Ety):∀ (L:List Ety) (k:Int),allF E L k=true↔∀ (i:Nat) (x:Ety),L[i]?=some x→mayEn x=true∧inE E x=k+(i:Int)
 | [],k=>by simp [allF]
 | y :: L,k=>by
  unfold allF
  simp only [Bool.and_eq_true,decide_eq_true_eq]
  rw [allF_iff E L (k+1)]
  constructor
  ·rintro ⟨h1,h2,h3⟩ i x hx
   cases i with
   | zero=>simp only [List.getElem?_cons_zero,Option.some.injEq] at hx;subst hx;exact ⟨h1,by rw [h2];simp⟩
   | succ i=>
    obtain ⟨a,b⟩:=h3 i x (by simpa using hx)
    exact ⟨a,by rw [b];push_cast;omega⟩
  ·intro h
   refine ⟨(h 0 y rfl).1,by have:=(h 0 y rfl).2;simpa using this,fun i x hx=>?_⟩
   obtain ⟨a,b⟩:=h (i+1) x (by simpa using hx)
   exact ⟨a,by rw [b];push_cast;omega⟩
theorem mayT_len {F:List Ety} {D:List Inv} (h:mayT F D=true):F.length≤8∧D.length≤8:=by
 unfold mayT at h
 simp only [Bool.and_eq_true,decide_eq_true_eq] at h
 exact h.2.2
theorem inE_at:∀ (L:List Ety) (k:Int) (i:Nat) (x:Ety),L.Nodup→L[i]?=some x→placeE (fun y=>eqE y x) L k=k+(i:Int)
 | [],_,_,_,_,h=>by simp at h
 | y :: L,k,0,x,_,h=>by
  obtain rfl:y=x:=by simpa using h
  simp [placeE,eqE_self]
 | y :: L,k,i+1,x,hn,h=>by
  have h:L[i]?=some x:=by simpa using h
  have hne:y≠x:=fun e=>(List.nodup_cons.1 hn).1 (e ▸ List.mem_of_getElem? h)
  have he:eqE y x=false:=by simp [eqE,hne]
  have:=inE_at L (k+1) i x (List.nodup_cons.1 hn).2 h
  simp only [placeE,he,Bool.false_eq_true,if_false,this]
  push_cast
  omega
theorem mayT_iff9 {E:List Ety} {D:List Inv}:mayT E D=true↔(∀ x∈E,mayEn x=true)∧E.Nodup∧allV D=true∧E.length≤8∧D.length≤8:=by
 unfold mayT
 simp only [Bool.and_eq_true,decide_eq_true_eq]
 rw [allF_iff]
 constructor
 ·rintro ⟨h,h2⟩
  refine ⟨fun x hx=>?_,?_,h2⟩
  ·obtain ⟨i,hi⟩:=List.mem_iff_getElem?.1 hx
   exact (h i x hi).1
  ·unfold List.Nodup
   rw [List.pairwise_iff_getElem]
   intro i j hi hj hij he
   have h1:=(h i _ (List.getElem?_eq_getElem hi)).2
   have h2:=(h j _ (List.getElem?_eq_getElem hj)).2
   rw [he] at h1
   omega
 ·rintro ⟨h,hn,h2⟩
  exact ⟨fun i x hx=>⟨h x (List.mem_of_getElem? hx),inE_at E 0 i x hn hx⟩,h2⟩
theorem mayT_fill {F:List Ety} {D:List Inv} {e:Ety} (h:mayT F D=true) (he:mayEn e=true):mayT (fill9 F e) D=true:=by
 unfold fill9
 split
 ·rename_i hn
  rw [mayT_iff9] at h ⊢
  obtain ⟨h1,h2,h3,h4,h5⟩:=h
  refine ⟨fun x hx=>?_,?_,h3,by rw [List.length_append,List.length_singleton];omega,h5⟩
  ·rcases List.mem_append.1 hx with hx | hx
   ·exact h1 x hx
   ·obtain rfl:=List.mem_singleton.1 hx
    exact he
  ·rw [List.nodup_append]
   refine ⟨h2,by simp,fun x hx y hy hxy=>?_⟩
   obtain rfl:=List.mem_singleton.1 hy
   subst hxy
   obtain ⟨i,hi⟩:=List.mem_iff_getElem?.1 hx
   have:=inE_at F 0 i _ h2 hi
   unfold inE at hn
   omega
 ·exact h
theorem mayT_sub {E F:List Ety} {D:List Inv} (h:mayT E D=true) (hs:F.Sublist E):mayT F D=true:=by
 rw [mayT_iff9] at h ⊢
 obtain ⟨h1,h2,h3,h4,h5⟩:=h
 exact ⟨fun x hx=>h1 x (hs.subset hx),h2.sublist hs,h3,Nat.le_trans hs.length_le h4,h5⟩
theorem drop9_sub (E:List Ety) (i:Nat):(drop9 E i).Sublist E:=by
 unfold drop9
 have:=(List.Sublist.refl (E.take i)).append (List.drop_sublist_drop_left E (Nat.le_succ i))
 rwa [List.take_append_drop] at this
end
section
open Go.ChangeShapes Go.WideShapes Go.ChangeAt Go.RowKit Go.Deep
theorem of2_n (lv:Int) (v:BitVec 64) (h:(ofD 2 lv v).k=2):(ofD 2 lv v).n=false:=by
 have hk:=of_cases 2 lv v
 generalize ofD 2 lv v=d at *
 rcases hk with hk | ⟨hk,_⟩
 ·rw [hk] at h;cases h
 ·unfold mayD at hk
  rw [if_neg (by omega),if_neg (by omega),if_pos h] at hk
  unfold leafD attrD at hk
  simp only [Bool.and_eq_true] at hk
  have:=hk.2.2.2.2
  rw [if_neg (by decide)] at this
  simp only [Bool.and_eq_true,Bool.not_eq_true'] at this
  exact this.1
theorem walkS_n {N:Int} {T:Int→Int→Dsc} {st pg:Int} (hT:∀ lv f,(T lv f).k=2→(T lv f).n=false) (hk:∀ lv f,(T lv f).k=0∨((T lv f).k=1∧lv≠3)∨(T lv f).k=2):∀ (n:Nat) (lv fr:Int) (R:List Int),(walkS N T st pg n lv fr R).1.t.n=false
 | 0,_,_,_=>rfl
 | n+1,lv,fr,R=>by
  unfold walkS
  split
  ·rfl
  ·split
   ·exact walkS_n hT hk n _ _ _
   ·split
    ·rfl
    ·split
     ·rfl
     ·exact hT _ _ (by rcases hk lv fr with h | h | h<;>omega)
theorem mid_n (l:Nat) (X:Nat→BitVec 64) (tf mid acc:Int):(midD l X true tf mid acc).1.t.n=false∧((midD l X true tf mid acc).2.1.k=0→(midD l X true tf mid acc).1.m=mid):=by
 have h:(walkD l X 2 tf mid).1.t.n=false:=walkS_n (fun lv f=>of2_n lv _) (fun lv f=>tbl_kind X 2 lv f mid) 4 0 tf []
 unfold midD
 rw [if_neg (by decide)]
 split
 ·split
  ·exact ⟨h,fun _=>rfl⟩
  ·rename_i h2
   exact ⟨rfl,fun h=>absurd h h2⟩
 ·rename_i h2
  exact ⟨rfl,fun h=>absurd h h2⟩
def midE (tg:Int) (h:Hit):Ety:=⟨2,tg,0,true,h.m,0,h.f,0,⟨h.t.r,h.t.w,h.t.x,h.t.a,false,0⟩⟩
def tabE (a:AcW) (pg lv f:Int):Ety:=⟨3,a.tg,a.tg1,false,pg - pg % cov (lv - 1),lv,f,0,atr0⟩
def whoE (a:AcW) (pg:Int) (h:Hit):Ety:=⟨1,a.tg,a.tg1,!h.t.n,pg,0,h.f,h.m,h.t⟩
abbrev LnR:=(Hit×Flt)×WkS
def reachM (a:AcW) (s:WkS) (m:Hit×Flt×List Int):LnR:=((m.1,m.2.1),⟨if a.pm=true∧m.2.1.k=0 then fill9 s.E (midE a.tg m.1) else s.E,s.R++m.2.2⟩)
def reachL (a:AcW) (s:WkS) (mid acc:Int):LnR:=
 if a.pu=true∧0≤mid9 s.E a.tg mid acc then ((⟨(s.E.getD (mid9 s.E a.tg mid acc).toNat ent0).fr,mid,(s.E.getD (mid9 s.E a.tg mid acc).toNat ent0).t,0⟩,flt0),s)
 else reachM a s (midD a.l a.X true a.tf mid acc)
def landK (ab:List Atr) (q:LnR):LnR:=if q.1.2.k≠0 then ((hit0,q.1.2),q.2) else ((⟨q.1.1.f,q.1.1.m,bothL (ab++[q.1.1.t]),q.1.1.l⟩,flt0),q.2)
abbrev EnR:=(Flt×(Int×Int))×WkS
def enterK (a:AcW) (pg lv0 fr0 lv:Int) (q:LnR):EnR:=
 if q.1.2.k≠0 then ((fltW q.1.2,(lv0,fr0)),q.2) else ((flt0,(lv,q.1.1.f)),if a.pw=true∧0 < lv then ⟨fill9 q.2.E (tabE a pg lv q.1.1.f),q.2.R⟩ else q.2)
def passL (a:AcW) (pg acc lv:Int) (d:Dsc) (s:WkS):LnR:=
 if (flagA d.at' acc 1 lv pg).k≠0 then ((hit0,flagA d.at' acc 1 lv pg),s) else landK [d.at'] (reachL a s (d.f+pg % cov lv) acc)
abbrev FlR:=((Hit×Flt)×(Int×Int))×WkS
def followK (next:Int→Int→WkS→FlR) (q:EnR):FlR:=if q.1.1.k≠0 then (((hit0,q.1.1),q.1.2),q.2) else next q.1.2.1 q.1.2.2 q.2
def lookK (a:AcW) (pg acc:Int) (next:Int→Int→WkS→FlR) (lv fr:Int) (s:WkS) (d:Dsc):FlR:=
 if d.k=1 then followK next (enterK a pg lv fr (lv+1) (reachL a s d.f 0))
 else if d.k=2 then (((passL a pg acc lv d s).1,(lv,fr)),(passL a pg acc lv d s).2)
 else (((hit0,⟨2,1,lv,false,pg⟩),(lv,fr)),s)
def followL (a:AcW) (pg acc:Int):Nat→Int→Int→WkS→FlR
 | 0,lv,fr,s=>(((hit0,flt0),(lv,fr)),s)
 | n+1,lv,fr,s=>lookK a pg acc (followL a pg acc n) lv fr ⟨s.E,s.R++[fr]⟩ (tblD a.X 1 lv fr pg)
def fillK (a:AcW) (pg:Int) (q:FlR):AcR:=((q.1.1.1.f,q.1.1.2),if a.pf=true∧q.1.1.2.k=0 then ⟨fill9 q.2.E (whoE a pg q.1.1.1),q.2.R⟩ else q.2)
def beginL (a:AcW) (pg:Int) (s:WkS):EnR:=
 if a.pu=true∧0≤walk9 s.E a.tg a.tg1 pg then ((flt0,((s.E.getD (walk9 s.E a.tg a.tg1 pg).toNat ent0).lv,(s.E.getD (walk9 s.E a.tg a.tg1 pg).toNat ent0).fr)),s)
 else enterK a pg 0 0 0 (reachL a s a.of1 0)
def followB (a:AcW) (pg acc:Int) (q:EnR):FlR:=followK (followL a pg acc (4 - q.1.2.1).toNat) q
def endL (a:AcW) (on1:Bool) (pg acc:Int) (s:WkS):AcR:=
 if on1=false then (((landK [] (reachL a s pg acc)).1.1.f,(landK [] (reachL a s pg acc)).1.2),(landK [] (reachL a s pg acc)).2)
 else if a.pu=true∧0≤whole9 s.E a.tg a.tg1 pg acc then (((s.E.getD (whole9 s.E a.tg a.tg1 pg acc).toNat ent0).fr,flt0),s)
 else fillK a pg (followB a pg acc (beginL a pg s))
theorem bothL_plain (t u:Atr):bothL [t,plainA u]=bothL [t,u]:=rfl
theorem mid_reach (a:AcW) (s:WkS) (mid acc:Int) (t0:0≤a.tf) (m0:0≤mid) :
  (a.mid s mid acc).2=(reachL a s mid acc).2∧(a.mid s mid acc).1.2.2=(reachL a s mid acc).1.2∧(a.mid s mid acc).1.1=(reachL a s mid acc).1.1.f∧((a.mid s mid acc).1.2.2.k=0→∀ t,bothL [t,(a.mid s mid acc).1.2.1]=bothL [t,(reachL a s mid acc).1.1.t])∧(((a.mid s mid acc).1.2.2.k≠0∧(a.mid s mid acc).1.1=0)∨(a.mid s mid acc).1.2.2=flt0):=by
 unfold AcW.mid midW reachL
 split
 ·exact ⟨rfl,rfl,rfl,fun _ _=>rfl,Or.inr rfl⟩
 ·have hn:=mid_n a.l a.X a.tf mid acc
  have hc:=(mid_cases a.l a.X true a.tf mid acc t0 m0).2.2
  generalize midD a.l a.X true a.tf mid acc=m at *
  obtain ⟨mh,fl,R⟩:=m
  obtain ⟨hn1,hn2⟩:=hn
  unfold reachM
  by_cases hk:fl.k=0
  ·have hm:=hn2 hk
   rcases hc with hc | hc
   ·obtain ⟨mf,mm,⟨r,w,x,ab,n,so⟩,ml⟩:=mh
    have hn1:n=false:=hn1
    have hm:mm=mid:=hm
    have hf:fl=flt0:=hc.1
    subst hm hn1 hf
    refine ⟨?_,rfl,rfl,fun _ _=>bothL_plain _ _,Or.inr rfl⟩
    cases a.pm<;>rfl
   ·exact absurd hk hc.1
  ·have hc':mh=hit0:=by
    rcases hc with hc | hc
    ·exact absurd (congrArg Flt.k hc.1) hk
    ·exact hc.2
   subst hc'
   simp only [hk,ne_eq,not_false_eq_true,if_true,and_false,if_false]
   exact ⟨trivial,trivial,rfl,fun h=>h.elim,Or.inl ⟨trivial,trivial⟩⟩
theorem enter_eq (a:AcW) (pg acc:Int) (t0:0≤a.tf) (n:Nat) (lv lv0 fr0 mid:Int) (s:WkS) (m0:0≤mid) (ih:∀ (fr:Int) (s:WkS),dscA a pg acc (fun mid s=>stageA a pg acc n (lv+1) (-1) mid s) lv fr ⟨s.E,s.R++[fr]⟩=fillK a pg (followL a pg acc (n+1) lv fr s)) :
  stageA a pg acc (n+1) lv (-1) mid s=fillK a pg (followK (followL a pg acc (n+1)) (enterK a pg lv0 fr0 lv (reachL a s mid 0))):=by
 have hr:=mid_reach a s mid 0 t0 m0
 unfold stageA tabA
 simp only [show ((-1:Int) < 0)=True from eq_true (by decide),if_true]
 generalize a.mid s mid 0=m at *
 generalize reachL a s mid 0=r at *
 obtain ⟨⟨mf,mt,mx⟩,ms⟩:=m
 obtain ⟨⟨rh,rx⟩,rs⟩:=r
 obtain ⟨h1,h2,h3,_,h5⟩:=hr
 simp only at h1 h2 h3 h5
 subst h1 h2 h3
 unfold followK enterK
 by_cases hz:mx.k=0
 ·have e0:¬ (mx.k≠0):=fun h=>h hz
  have e1:¬ (flt0.k≠0):=fun h=>h rfl
  rw [if_neg e0,if_neg e0,if_neg e1,if_neg e1]
  simp only
  have hp:(decide (lv > 0)&&a.pw)=true↔a.pw=true∧0 < lv:=by
   simp only [Bool.and_eq_true,decide_eq_true_eq]
   constructor<;>(rintro ⟨h,h'⟩;exact ⟨h',h⟩)
  by_cases hq:a.pw=true∧0 < lv
  ·rw [if_pos (hp.2 hq),if_pos hq]
   exact ih rh.f ⟨fill9 ms.E (tabE a pg lv rh.f),ms.R⟩
  ·rw [if_neg (fun h=>hq (hp.1 h)),if_neg hq]
   exact ih rh.f ms
 ·have e1:¬ ((fltW mx).k=0):=hz
  simp only [ne_eq,hz,e1,not_false_eq_true,if_true,and_false,if_false,fillK]
  rfl
theorem follow_eq (a:AcW) (pg acc:Int) (t0:0≤a.tf) (p0:0≤pg):∀ (n:Nat) (lv fr:Int) (s:WkS),lv+n=3→dscA a pg acc (fun mid s=>stageA a pg acc n (lv+1) (-1) mid s) lv fr ⟨s.E,s.R++[fr]⟩=fillK a pg (followL a pg acc (n+1) lv fr s)
 | n,lv,fr,s,hl=>by
  have hk:=tbl_kind a.X 1 lv fr pg
  have hf:=tbl_frame a.X 1 lv fr pg
  have hc:=mod_cov pg lv p0
  unfold dscA followL lookK
  generalize tblD a.X 1 lv fr pg=d at *
  rcases hk with hk | ⟨hk,h3⟩ | hk
  ·rw [if_neg (by omega),if_pos hk,if_neg (by omega),if_neg (by omega)]
   unfold fillK
   simp only [show ((2:Int)=0)=False from by simp,and_false,if_false]
   rfl
  ·rw [if_pos hk,if_pos hk]
   obtain ⟨n,rfl⟩:∃ n',n=n'+1:=⟨n - 1,by omega⟩
   exact enter_eq a pg acc t0 n (lv+1) lv fr d.f _ hf.1 (fun fr s=>follow_eq a pg acc t0 p0 n (lv+1) fr s (by push_cast at hl;omega))
  ·simp only [show (d.k=1)=False from eq_false (by omega),show (d.k=0)=False from eq_false (by omega),show (d.k=2)=True from eq_true hk,if_true,if_false]
   unfold passL
   by_cases hg:(flagA d.at' acc 1 lv pg).k=0
   ·simp only [ne_eq,hg,not_true_eq_false,if_false]
    have hr:=mid_reach a ⟨s.E,s.R++[fr]⟩ (d.f+pg % cov lv) acc t0 (by omega)
    generalize a.mid ⟨s.E,s.R++[fr]⟩ (d.f+pg % cov lv) acc=m at *
    generalize hrr:reachL a ⟨s.E,s.R++[fr]⟩ (d.f+pg % cov lv) acc=r at *
    obtain ⟨⟨mf,mt,mx⟩,ms⟩:=m
    obtain ⟨⟨rh,rx⟩,rs⟩:=r
    obtain ⟨h1,h2,h3,h4,h5⟩:=hr
    simp only at h1 h2 h3 h4 h5
    subst h1 h2 h3
    unfold landK fillK
    by_cases hz:mx.k=0
    ·have e0:¬ (mx.k≠0):=fun h=>h hz
     have hm:rh.m=d.f+pg % cov lv:=by
      have hm0:=congrArg (fun q=>q.1.1.m) hrr
      have hk0:=congrArg (fun q=>q.1.2.k) hrr
      simp only at hm0 hk0
      rw [← hm0]
      rw [hz] at hk0
      unfold reachL at hk0 ⊢
      split
      ·rfl
      ·rename_i h
       rw [if_neg h] at hk0
       exact (mid_n _ _ _ _ _).2 hk0
     simp only [ne_eq,hz,not_true_eq_false,if_false,h4 hz,List.singleton_append]
     by_cases hq:a.pf=true
     ·rw [if_pos hq,if_pos ⟨hq,rfl⟩]
      unfold whoE
      simp only [hm]
     ·rw [if_neg hq,if_neg (fun h=>hq h.1)]
    ·simp only [ne_eq,hz,not_false_eq_true,if_true,and_false,if_false]
     rfl
   ·rw [if_pos hg,if_pos hg]
    unfold fillK
    simp only [hg,and_false,if_false]
    rfl
theorem end_eq (a:AcW) (on1:Bool) (E:List Ety) (pg acc pd:Int) {l:Nat} (t0:0≤a.tf) (o0:0≤a.of1) (p0:0≤pg) (hO:OkE l E):endL a on1 pg acc ⟨dropA E pd,[]⟩=pageA a on1 E pg acc pd:=by
 have hO:=hO.drop pd
 unfold endL pageA
 generalize dropA E pd=F at *
 simp only
 split
 ·have hr:=mid_reach a ⟨F,[]⟩ pg acc t0 p0
  generalize a.mid ⟨F,[]⟩ pg acc=m at *
  generalize reachL a ⟨F,[]⟩ pg acc=r at *
  obtain ⟨⟨mf,mt,mx⟩,ms⟩:=m
  obtain ⟨⟨rh,rx⟩,rs⟩:=r
  obtain ⟨h1,h2,h3,h4,h5⟩:=hr
  simp only at h1 h2 h3 h4 h5
  subst h1 h2
  unfold landK
  by_cases hz:mx.k=0
  ·rw [if_neg (fun h=>h hz)]
   rcases h5 with h5 | h5
   ·exact absurd hz h5.1
   ·rw [h5,← h3]
  ·rw [if_pos hz]
   rcases h5 with h5 | h5
   ·rw [h5.2]
    rfl
   ·exact absurd (by rw [h5];rfl) hz
 ·split
  ·rfl
  ·unfold beginL followB
   split
   ·rename_i hw
    have hw2:0≤walk9 F a.tg a.tg1 pg:=hw.2
    rcases walkF_is (p:=isWk a.tg a.tg1 pg) F 0 (-1) 0 (by decide) with h1 | ⟨i,x,h1,h2,h3⟩
    ·have h2:walk9 F a.tg a.tg1 pg=-1:=h1
     omega
    ·have hi:walk9 F a.tg a.tg1 pg=(i:Nat):=h3.trans (by omega)
     have hx:F.getD (walk9 F a.tg a.tg1 pg).toNat ent0=x:=by
      rw [hi,Int.toNat_natCast,List.getD_eq_getElem?_getD,h1]
      rfl
     have hmem:=List.mem_of_getElem? h1
     unfold isWk at h2
     simp only [Bool.and_eq_true,decide_eq_true_eq] at h2
     have hlv:=hO.2 x hmem h2.1
     have hfr:=hO.1 x hmem
     simp only [hx]
     rw [show followK (followL a pg acc (4 - x.lv).toNat) ((flt0,(x.lv,x.fr)),⟨F,[]⟩)=followL a pg acc (4 - x.lv).toNat x.lv x.fr ⟨F,[]⟩ from rfl,show (4 - x.lv).toNat=(3 - x.lv).toNat+1 by omega]
     unfold stageA tabA
     simp only [show (x.fr < 0)=False from eq_false (by omega),if_false,show (flt0.k≠0)=False from eq_false (fun h=>h rfl)]
     exact Eq.symm <| follow_eq a pg acc t0 p0 (3 - x.lv).toNat x.lv x.fr ⟨F,[]⟩ (by omega)
   ·rw [enter_eq a pg acc t0 3 0 0 0 a.of1 ⟨F,[]⟩ o0 (fun fr s=>follow_eq a pg acc t0 p0 3 0 fr s (by decide))]
    congr 1
    unfold followK enterK
    split
    ·rename_i hz
     have hz':(fltW (reachL a ⟨F,[]⟩ a.of1 0).1.2).k≠0:=hz
     rw [if_pos hz',if_pos hz']
    ·rfl
end
end Go.Proofs.YtlgpdbgingjpbaaGreat
