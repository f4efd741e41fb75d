/- Walks,plainly: hits,faults,what one stage makes of a page. '==' of hits,faults and attributes. Plain walking: a region that draws its order and whose last operations write what earlier ones read: the invariant S0 holds behind every operation,S as long as none of those was carried out. Plain walking: a region that draws its order and whose last operations write what earlier ones read: those wait for the reads by a chain of operations. The reference's One,Next. Stage 13: what the program's calls are held against;the argument,opened;num,wakes. Permissions plainly;the reference's May,Both,Flag: contracts. Stage 6: what the program's calls are held against;the argument,opened;wakes. The program's May: contract. -/
import Derived.Test.YtlgpdbgingjpbaaGreatDb
import Derived.Test.YtlgpdbgingjpbaaGreatLt
import Derived.Laws.StructEq
import Derived.OrdersHeld
import Derived.StillTail
import Derived.Deep.RegionHeld3
import Derived.Test.YtlgpdbgingjpbaaGreatKt
import Derived.Test.YtlgpdbgingjpbaaGreatRe
import Derived.Test.YtlgpdbgingjpbaaGreatEj
import Derived.Deep.CutBlock
import Derived.Deep.DeepCutAuto
set_option linter.all false
namespace Go.Proofs.YtlgpdbgingjpbaaGreat
section
open Go.RowKit
structure Atr where
 r:Bool
 w:Bool
 x:Bool
 a:Bool
 n:Bool
 s:Int
deriving DecidableEq
structure Hit where
 f:Int
 m:Int
 t:Atr
 l:Int
deriving DecidableEq
structure Flt where
 k:Int
 st:Int
 lv:Int
 w:Bool
 p:Int
deriving DecidableEq
def atr0:Atr:=⟨false,false,false,false,false,0⟩
def hit0:Hit:=⟨0,0,atr0,0⟩
def flt0:Flt:=⟨0,0,0,false,0⟩
def Dsc.at' (d:Dsc):Atr:=⟨d.r,d.w,d.x,d.a,d.n,d.s⟩
def fltV (f:Flt):Value:=.agg #[.int .i64 f.k,.int .i64 f.st,.int .i64 f.lv,.bool f.w,.int .i64 f.p]
def hitV (h:Hit):Value:=.agg #[.int .i64 h.f,.int .i64 h.m,.bool h.t.r,.bool h.t.w,.bool h.t.x,.bool h.t.a,.bool h.t.n,.int .i64 h.t.s,.int .i64 h.l]
def atrC (t:Atr):Array Value:=#[.bool t.r,.bool t.w,.bool t.x,.bool t.a,.bool t.n,.int .i64 t.s]
def atrV (t:Atr):Value:=.agg (atrC t)
def eqH (a b:Hit):Bool:=decide (a=b)
def eqF (a b:Flt):Bool:=decide (a=b)
def eqA (a b:Atr):Bool:=decide (a=b)
theorem eqA_self (a:Atr):eqA a a=true:=by simp [eqA]
def idxI (lv p:Int):Int:=p / cov lv % 8
def tblD (X:Nat→BitVec 64) (st lv fr pg:Int):Dsc:=ofD st lv (X (fr * 8+idxI lv pg).toNat)
def walkS (N:Int) (T:Int→Int→Dsc) (st pg:Int):Nat→Int→Int→List Int→Hit×Flt×List Int
 | 0,lv,_,R=>(hit0,⟨0,st,lv - 1,false,pg⟩,R)
 | n+1,lv,fr,R=>
  if N≤fr then (hit0,⟨1,st,lv,false,pg⟩,R)
  else if (T lv fr).k=1 then walkS N T st pg n (lv+1) (T lv fr).f (R++[fr])
  else if (T lv fr).k=0 then (hit0,⟨2,st,lv,false,pg⟩,R++[fr])
  else if N≤(T lv fr).f+pg % cov lv then (hit0,⟨1,st,lv,false,pg⟩,R++[fr])
  else (⟨(T lv fr).f+pg % cov lv,0,(T lv fr).at',lv⟩,flt0,R++[fr])
def walkD (l:Nat) (X:Nat→BitVec 64) (st fr pg:Int):Hit×Flt×List Int:=walkS ((l:Int) / 8) (fun lv f=>tblD X st lv f pg) st pg 4 0 fr []
theorem of_kind (st lv:Int) (v:BitVec 64):(ofD st lv v).k=0∨((ofD st lv v).k=1∧lv≠3)∨(ofD st lv v).k=2:=by
 unfold ofD
 split
 ·rename_i h
  have hm:=h.1
  unfold mayD at hm
  by_cases h0:(readD st lv v).k=0
  ·exact .inl h0
  ·rw [if_neg h0] at hm
   by_cases h1:(readD st lv v).k=1
   ·rw [if_pos h1] at hm
    refine .inr (.inl ⟨h1,?_⟩)
    unfold tableD at hm
    simp only [Bool.and_eq_true,decide_eq_true_eq] at hm
    exact hm.2.1
   ·rw [if_neg h1] at hm
    by_cases h2:(readD st lv v).k=2
    ·exact .inr (.inr h2)
    ·rw [if_neg h2] at hm;cases hm
 ·exact .inl rfl
theorem of_frame (st lv:Int) (v:BitVec 64):0≤(ofD st lv v).f∧(ofD st lv v).f≤4095:=by
 have hk:=of_cases st lv v
 rcases hk with h | ⟨h,_⟩
 ·rw [h];exact ⟨by decide,by decide⟩
 ·generalize ofD st lv v=d at h
  unfold mayD at h
  by_cases h0:d.k=0
  ·rw [if_pos h0] at h
   unfold noneD at h
   simp only [Bool.and_eq_true,eqD_iff] at h
   rw [h.1]
   exact ⟨Int.le_refl 0,show (0:Int)≤4095 by decide⟩
  ·rw [if_neg h0] at h
   by_cases h1:d.k=1
   ·rw [if_pos h1] at h
    unfold tableD at h
    simp only [Bool.and_eq_true,numB_iff] at h
    exact h.2.2
   ·rw [if_neg h1] at h
    by_cases h2:d.k=2
    ·rw [if_pos h2] at h
     unfold leafD at h
     simp only [Bool.and_eq_true,numB_iff] at h
     exact h.2.2.1
    ·rw [if_neg h2] at h;cases h
theorem idx_lo (lv p:Int):0≤idxI lv p∧idxI lv p≤7:=by unfold idxI;omega
theorem tbl_kind (X:Nat→BitVec 64) (st lv fr pg:Int):(tblD X st lv fr pg).k=0∨((tblD X st lv fr pg).k=1∧lv≠3)∨(tblD X st lv fr pg).k=2:=of_kind _ _ _
theorem tbl_frame (X:Nat→BitVec 64) (st lv fr pg:Int):0≤(tblD X st lv fr pg).f∧(tblD X st lv fr pg).f≤4095:=of_frame _ _ _
section
variable {N:Int} {T:Int→Int→Dsc} {st pg:Int} {n:Nat} {lv fr:Int} {R:List Int}
theorem walkS_size (h:N≤fr):walkS N T st pg (n+1) lv fr R=(hit0,⟨1,st,lv,false,pg⟩,R):=by rw [walkS,if_pos h]
theorem walkS_table (h:¬ N≤fr) (hk:(T lv fr).k=1):walkS N T st pg (n+1) lv fr R=walkS N T st pg n (lv+1) (T lv fr).f (R++[fr]):=by rw [walkS,if_neg h,if_pos hk]
theorem walkS_none (h:¬ N≤fr) (hk:(T lv fr).k=0):walkS N T st pg (n+1) lv fr R=(hit0,⟨2,st,lv,false,pg⟩,R++[fr]):=by
 rw [walkS,if_neg h,if_neg (by omega),if_pos hk]
theorem walkS_far (h:¬ N≤fr) (hk:(T lv fr).k=2) (hs:N≤(T lv fr).f+pg % cov lv):walkS N T st pg (n+1) lv fr R=(hit0,⟨1,st,lv,false,pg⟩,R++[fr]):=by
 rw [walkS,if_neg h,if_neg (by omega),if_neg (by omega),if_pos hs]
theorem walkS_leaf (h:¬ N≤fr) (hk:(T lv fr).k=2) (hs:¬ N≤(T lv fr).f+pg % cov lv):walkS N T st pg (n+1) lv fr R=(⟨(T lv fr).f+pg % cov lv,0,(T lv fr).at',lv⟩,flt0,R++[fr]):=by
 rw [walkS,if_neg h,if_neg (by omega),if_neg (by omega),if_neg hs]
end
theorem walkS_read (N:Int) (T:Int→Int→Dsc) (st pg:Int) (hk:∀ lv fr,(T lv fr).k=0∨((T lv fr).k=1∧lv≠3)∨(T lv fr).k=2) (hf:∀ lv fr,0≤(T lv fr).f) (hp:0≤pg) :
  ∀ (n:Nat) (lv fr:Int) (R:List Int),1≤n→lv=4 - n→0≤fr→(R.length:Int)=lv→(∀ x∈R,0≤x∧x < N)→
   (walkS N T st pg n lv fr R).2.2.length≤4∧(∀ x∈(walkS N T st pg n lv fr R).2.2,0≤x∧x < N)∧
   (((walkS N T st pg n lv fr R).2.1=flt0∧(walkS N T st pg n lv fr R).1.l=((walkS N T st pg n lv fr R).2.2.length:Int) - 1∧0≤(walkS N T st pg n lv fr R).1.f∧(walkS N T st pg n lv fr R).1.f < N)∨
    ((walkS N T st pg n lv fr R).2.1.k≠0∧(walkS N T st pg n lv fr R).1=hit0∧(walkS N T st pg n lv fr R).2.1.st=st∧(walkS N T st pg n lv fr R).2.1.p=pg∧((walkS N T st pg n lv fr R).2.1.lv=((walkS N T st pg n lv fr R).2.2.length:Int)∨(walkS N T st pg n lv fr R).2.1.lv=((walkS N T st pg n lv fr R).2.2.length:Int) - 1)))
 | 0,_,_,_,h,_,_,_,_=>by omega
 | n+1,lv,fr,R,_,hl,h0,hR,hx=>by
  by_cases h:N≤fr
  ·rw [walkS_size h]
   exact ⟨by simp only;omega,hx,.inr ⟨by simp,rfl,rfl,rfl,.inl (by simp only;omega)⟩⟩
  ·have hx':∀ x∈R++[fr],0≤x∧x < N:=by
    intro x hm
    rcases List.mem_append.1 hm with hm | hm
    ·exact hx x hm
    ·simp at hm;subst hm;omega
   have hlen:((R++[fr]).length:Int)=lv+1:=by simp;omega
   rcases hk lv fr with hk0 | ⟨hk1,h3⟩ | hk2
   ·rw [walkS_none h hk0]
    exact ⟨by simp only;omega,hx',.inr ⟨by simp,rfl,rfl,rfl,.inr (by simp only;omega)⟩⟩
   ·rw [walkS_table h hk1]
    exact walkS_read N T st pg hk hf hp n (lv+1) _ _ (by omega) (by omega) (hf lv fr) (by omega) hx'
   ·by_cases hs:N≤(T lv fr).f+pg % cov lv
    ·rw [walkS_far h hk2 hs]
     exact ⟨by simp only;omega,hx',.inr ⟨by simp,rfl,rfl,rfl,.inr (by simp only;omega)⟩⟩
    ·rw [walkS_leaf h hk2 hs]
     have:=hf lv fr
     have hc:=cov_pos lv
     have:0≤pg % cov lv:=Int.emod_nonneg _ (by omega)
     exact ⟨by simp only;omega,hx',.inl ⟨rfl,by simp only;omega,by simp only;omega,by simp only;omega⟩⟩
end
section
open Go.ChangeShapes Go.WideShapes Go.ChangeAt Go.RowKit Go.Deep
theorem eq_hit (f m:Int) (r wr x a n:Bool) (s l:Int) (f' m':Int) (r' wr' x' a' n':Bool) (s' l':Int) (w:World) :
  (Op.equalIn 10000 235 (.agg #[.int .i64 f,.int .i64 m,.bool r,.bool wr,.bool x,.bool a,.bool n,.int .i64 s,.int .i64 l]) (.agg #[.int .i64 f',.int .i64 m',.bool r',.bool wr',.bool x',.bool a',.bool n',.int .i64 s',.int .i64 l'])).run Tryz.prog w=.ok (eqH ⟨f,m,⟨r,wr,x,a,n,s⟩,l⟩ ⟨f',m',⟨r',wr',x',a',n',s'⟩,l'⟩) w:=by
 rw [run_equalIn_agg w 9999 _ _ _ (by kernel_rfl) (by kernel_rfl)]
 simp only [Program.fieldsOf,Tryz.underlying235]
 simp [go_sem,eqH]
 by_cases h0:f=f'
 rotate_left
 ·simp [h0]
 by_cases h1:m=m'
 rotate_left
 ·simp [h0,h1]
 by_cases h2:r=r'
 rotate_left
 ·simp [h0,h1,h2]
 by_cases h3:wr=wr'
 rotate_left
 ·simp [h0,h1,h2,h3]
 by_cases h4:x=x'
 rotate_left
 ·simp [h0,h1,h2,h3,h4]
 by_cases h5:a=a'
 rotate_left
 ·simp [h0,h1,h2,h3,h4,h5]
 by_cases h6:n=n'
 rotate_left
 ·simp [h0,h1,h2,h3,h4,h5,h6]
 by_cases h7:s=s'
 rotate_left
 ·simp [h0,h1,h2,h3,h4,h5,h6,h7]
 by_cases h8:l=l'
 rotate_left
 ·simp [h0,h1,h2,h3,h4,h5,h6,h7,h8]
 simp [h0,h1,h2,h3,h4,h5,h6,h7,h8]
@[go_sem high] theorem eql_hit (f m:Int) (r wr x a n:Bool) (s l:Int) (f' m':Int) (r' wr' x' a' n':Bool) (s' l':Int) (w:World) :
  (binOp .eql 235 (.agg #[.int .i64 f,.int .i64 m,.bool r,.bool wr,.bool x,.bool a,.bool n,.int .i64 s,.int .i64 l]) (.agg #[.int .i64 f',.int .i64 m',.bool r',.bool wr',.bool x',.bool a',.bool n',.int .i64 s',.int .i64 l'])).run Tryz.prog w=.ok (.bool (eqH ⟨f,m,⟨r,wr,x,a,n,s⟩,l⟩ ⟨f',m',⟨r',wr',x',a',n',s'⟩,l'⟩)) w:=by
 rw [run_eql_struct,eq_hit];rfl
@[go_sem high] theorem neq_hit (f m:Int) (r wr x a n:Bool) (s l:Int) (f' m':Int) (r' wr' x' a' n':Bool) (s' l':Int) (w:World) :
  (binOp .neq 235 (.agg #[.int .i64 f,.int .i64 m,.bool r,.bool wr,.bool x,.bool a,.bool n,.int .i64 s,.int .i64 l]) (.agg #[.int .i64 f',.int .i64 m',.bool r',.bool wr',.bool x',.bool a',.bool n',.int .i64 s',.int .i64 l'])).run Tryz.prog w=.ok (.bool (!eqH ⟨f,m,⟨r,wr,x,a,n,s⟩,l⟩ ⟨f',m',⟨r',wr',x',a',n',s'⟩,l'⟩)) w:=by
 rw [run_neq_struct,eq_hit];rfl
theorem eq_flt (k st lv:Int) (wk:Bool) (p:Int) (k' st' lv':Int) (wk':Bool) (p':Int) (w:World) :
  (Op.equalIn 10000 43 (.agg #[.int .i64 k,.int .i64 st,.int .i64 lv,.bool wk,.int .i64 p]) (.agg #[.int .i64 k',.int .i64 st',.int .i64 lv',.bool wk',.int .i64 p'])).run Tryz.prog w=.ok (eqF ⟨k,st,lv,wk,p⟩ ⟨k',st',lv',wk',p'⟩) w:=by
 rw [run_equalIn_agg w 9999 _ _ _ (by kernel_rfl) (by kernel_rfl)]
 simp only [Program.fieldsOf,Tryz.underlying43]
 simp [go_sem,eqF]
 by_cases h0:k=k'
 rotate_left
 ·simp [h0]
 by_cases h1:st=st'
 rotate_left
 ·simp [h0,h1]
 by_cases h2:lv=lv'
 rotate_left
 ·simp [h0,h1,h2]
 by_cases h3:wk=wk'
 rotate_left
 ·simp [h0,h1,h2,h3]
 by_cases h4:p=p'
 rotate_left
 ·simp [h0,h1,h2,h3,h4]
 simp [h0,h1,h2,h3,h4]
@[go_sem high] theorem eql_flt (k st lv:Int) (wk:Bool) (p:Int) (k' st' lv':Int) (wk':Bool) (p':Int) (w:World) :
  (binOp .eql 43 (.agg #[.int .i64 k,.int .i64 st,.int .i64 lv,.bool wk,.int .i64 p]) (.agg #[.int .i64 k',.int .i64 st',.int .i64 lv',.bool wk',.int .i64 p'])).run Tryz.prog w=.ok (.bool (eqF ⟨k,st,lv,wk,p⟩ ⟨k',st',lv',wk',p'⟩)) w:=by
 rw [run_eql_struct,eq_flt];rfl
@[go_sem high] theorem neq_flt (k st lv:Int) (wk:Bool) (p:Int) (k' st' lv':Int) (wk':Bool) (p':Int) (w:World) :
  (binOp .neq 43 (.agg #[.int .i64 k,.int .i64 st,.int .i64 lv,.bool wk,.int .i64 p]) (.agg #[.int .i64 k',.int .i64 st',.int .i64 lv',.bool wk',.int .i64 p'])).run Tryz.prog w=.ok (.bool (!eqF ⟨k,st,lv,wk,p⟩ ⟨k',st',lv',wk',p'⟩)) w:=by
 rw [run_neq_struct,eq_flt];rfl
theorem eq_atr (r wr x a n:Bool) (s:Int) (r' wr' x' a' n':Bool) (s':Int) (w:World) :
  (Op.equalIn 10000 119 (.agg #[.bool r,.bool wr,.bool x,.bool a,.bool n,.int .i64 s]) (.agg #[.bool r',.bool wr',.bool x',.bool a',.bool n',.int .i64 s'])).run Tryz.prog w=.ok (eqA ⟨r,wr,x,a,n,s⟩ ⟨r',wr',x',a',n',s'⟩) w:=by
 rw [run_equalIn_agg w 9999 _ _ _ (by kernel_rfl) (by kernel_rfl)]
 simp only [Program.fieldsOf,Tryz.underlying119]
 simp [go_sem,eqA]
 by_cases h0:r=r'
 rotate_left
 ·simp [h0]
 by_cases h1:wr=wr'
 rotate_left
 ·simp [h0,h1]
 by_cases h2:x=x'
 rotate_left
 ·simp [h0,h1,h2]
 by_cases h3:a=a'
 rotate_left
 ·simp [h0,h1,h2,h3]
 by_cases h4:n=n'
 rotate_left
 ·simp [h0,h1,h2,h3,h4]
 by_cases h5:s=s'
 rotate_left
 ·simp [h0,h1,h2,h3,h4,h5]
 simp [h0,h1,h2,h3,h4,h5]
@[go_sem high] theorem eql_atr (r wr x a n:Bool) (s:Int) (r' wr' x' a' n':Bool) (s':Int) (w:World) :
  (binOp .eql 119 (.agg #[.bool r,.bool wr,.bool x,.bool a,.bool n,.int .i64 s]) (.agg #[.bool r',.bool wr',.bool x',.bool a',.bool n',.int .i64 s'])).run Tryz.prog w=.ok (.bool (eqA ⟨r,wr,x,a,n,s⟩ ⟨r',wr',x',a',n',s'⟩)) w:=by
 rw [run_eql_struct,eq_atr];rfl
@[go_sem high] theorem neq_atr (r wr x a n:Bool) (s:Int) (r' wr' x' a' n':Bool) (s':Int) (w:World) :
  (binOp .neq 119 (.agg #[.bool r,.bool wr,.bool x,.bool a,.bool n,.int .i64 s]) (.agg #[.bool r',.bool wr',.bool x',.bool a',.bool n',.int .i64 s'])).run Tryz.prog w=.ok (.bool (!eqA ⟨r,wr,x,a,n,s⟩ ⟨r',wr',x',a',n',s'⟩)) w:=by
 rw [run_neq_struct,eq_atr];rfl
end
section
open Go.RowKit
section
variable {P:Program} {ops:Array Oper} {Q:Exit→Act→World→Prop} {md:Region.Mode} {S0 S:World→Prop} {T:List Nat}
def CondT (S0 S:World→Prop) (T:List Nat) (listed:Array Bool) (w:World):Prop:=S0 w∧((∀ t∈T,listed.getD t true=false)→S w)
theorem CondT.same {listed listed':Array Bool} {w:World} (h:CondT S0 S T listed w) (hu:∀ t∈T,listed'.getD t true=listed.getD t true):CondT S0 S T listed' w:=
 ⟨h.1,fun h2=>h.2 fun t ht=>(hu t ht).symm.trans (h2 t ht)⟩
end
end
section
open Go.RowKit
section
variable {P:Program} {ops:Array Oper} {Q:Exit→Act→World→Prop} {md:Region.Mode} {S0 S:World→Prop} {T:List Nat}
end
end
section
open Go.ChangeShapes Go.WideShapes Go.ChangeAt Go.RowKit Go.Deep
def oneR (r:Rg):Rt:=⟨flagW r.sc 0,(ofT (r.tt&&& ~~~1#64)).f,(ofT (r.tt&&& ~~~1#64)).t⟩
end
section
open Go.ChangeShapes Go.WideShapes Go.ChangeAt Go.RowKit Go.Deep
def rtV (r:Rt):Value:=.agg #[.bool r.o,.int .i64 r.f,.int .i64 r.t]
def RgOneC:Prop:=∀ (r:Rg) (w:World),Calls Tryz.prog 112 #[regV r] w fun e w'=>e=.returned (rtV (oneR r))∧Below w.heap.size w w'
def RgTrapC:Prop:=∀ (r:Rg) (a b:BitVec 64) (w:World),Calls Tryz.prog 117 #[regV r,.int .u64 (u a),.int .u64 (u b)] w fun e w'=>e=.returned (regV (trapR r a b))∧Below w.heap.size w w'
def RgNextC:Prop:=∀ (r:Rg) (f:Option Addr) (l c:Nat) (X:Nat→Int) (w:World),NumsAt w f l X→l≤1000000→
 Calls Tryz.prog 121 #[regV r,.slice f l c] w fun e w'=>e=.returned (regV (nextR r X l))∧Below w.heap.size w w'
structure Q13 where
 r:Rg
 k:Int
 v:BitVec 64
 f:Option Addr
 l:Nat
 c:Nat
 X:Nat→Int
structure Ok13 (W:World) (q:Q13):Prop where
 nums:NumsAt W q.f q.l q.X
 n1:q.l≤1000000000000000
theorem Ok13.below {W w:World} {q:Q13} (h:Ok13 W q) (hb:Below W.heap.size W w):Ok13 w q:=⟨h.nums.below hb,h.n1⟩
section
variable {H:Type} {enc:TypeId×Value→H} {w:World} {base:Nat} {held:Bool}
end
end
section
open Go.ChangeShapes Go.WideShapes Go.ChangeAt Go.RowKit Go.Deep
def mayA (t:Atr) (acc:Int):Bool:=((decide (acc=0)&&t.r)||(decide (acc=1)&&t.w))||(decide (acc=2)&&t.x)
def flagA (t:Atr) (acc st lv pg:Int):Flt:=if t.a=false then ⟨3,st,lv,false,pg⟩ else if mayA t acc=false then ⟨4,st,lv,false,pg⟩ else flt0
def bothS (x a:Atr):Atr:=⟨x.r&&a.r,x.w&&a.w,x.x&&a.x,x.a&&a.a,x.n||a.n,x.s⟩
def both1:Atr:=⟨true,true,true,true,false,0⟩
def bothL (L:List Atr):Atr:=L.foldl bothS both1
def KA:RowK Atr where
 ts:=291
 t:=119
 N:=6
 B:=16
 z:=.agg #[.bool false,.bool false,.bool false,.bool false,.bool false,.int .i64 0]
 V:=atrC
 pos:=by decide
 small:=by decide
 size:=fun _=>rfl
 one:=fun q v hv=>by
  simp only [atrC,List.mem_cons,List.not_mem_nil,or_false] at hv
  rcases hv with rfl | rfl | rfl | rfl | rfl | rfl<;>rfl
 under:=Tryz.underlying291
 info:=by kernel_rfl
 zs:=rfl
theorem both_take (L:List Atr) (k:Nat) (t:Atr) (h:L[k]?=some t):bothL (L.take (k+1))=bothS (bothL (L.take k)) t:=by
 unfold bothL
 rw [List.take_add_one,h,List.foldl_append]
 rfl
end
section
open Go.ChangeShapes Go.WideShapes Go.ChangeAt Go.RowKit Go.Deep
def MayC:Prop:=∀ (t:Atr) (acc:Int) (w:World),
 Calls Tryz.prog 229 #[atrV t,.int .i64 acc] w fun e w'=>e=.returned (.tuple #[.bool (numB acc 2&&mayA t acc),.int .i64 (if numB acc 2=true then 0 else 1)])∧Below w.heap.size w w'
def FlagC:Prop:=∀ (t:Atr) (acc st lv pg:Int) (w:World),
 Calls Tryz.prog 285 #[atrV t,.int .i64 acc,.int .i64 st,.int .i64 lv,.int .i64 pg] w fun e w'=>e=.returned (.tuple #[fltV (if numB acc 2=true then flagA t acc st lv pg else flt0),.int .i64 (if numB acc 2=true then 0 else 1)])∧Below w.heap.size w w'
def BothC:Prop:=∀ (f:Option Addr) (n c:Nat) (L:List Atr) (w:World),RowsAt KA w f L→n=L.length→L.length≤100000→
 Calls Tryz.prog 258 #[.slice f n c] w fun e w'=>e=.returned (atrV (bothL L))∧Below w.heap.size w w'
structure Q6 where
 f:Option Addr
 n:Nat
 c:Nat
 L:List Atr
 acc:Int
 st:Int
 lv:Int
 pg:Int
structure Ok6 (W:World) (q:Q6):Prop where
 rows:RowsAt KA W q.f q.L
 len:q.n=q.L.length
 n1:q.n≤1000000000000000
 nil:q.f=none→q.c=0
theorem Ok6.below {W w:World} {q:Q6} (h:Ok6 W q) (hb:Below W.heap.size W w):Ok6 w q:=⟨h.rows.below hb,h.len,h.n1,h.nil⟩
section
variable {H:Type} {enc:TypeId×Value→H} {w:World} {base:Nat} {held:Bool}
end
end
section
open Go.ChangeShapes Go.WideShapes Go.ChangeAt Go.RowKit Go.Deep
def attC (t:Atr) (acc:Int):Array Value:=#[.bool t.r,.bool t.w,.bool t.x,.bool t.a,.bool t.n,.int .i64 t.s,.int .i64 acc]
def attV (t:Atr) (acc:Int):Value:=.agg (attC t acc)
theorem attemptOf_any (t:Atr) (acc:Int) (w:World) :
  Calls Tryz.prog 249 #[atrV t,.int .i64 acc] w fun e w'=>e=.returned (attV t acc)∧Below w.heap.size w w':=by
 obtain ⟨r,wr,x,a,n,s⟩:=t
 unfold attV attC atrV atrC
 go_enter Tryz.func249,Tryz.ntmps249
 go_wp2
 go_returns
 exact ⟨rfl,by go_grown⟩
theorem attMay_any (t:Atr) (acc:Int) (w:World) :
  Calls Tryz.prog 250 #[attV t acc] w fun e w'=>e=.returned (.bool (numB acc 2))∧Below w.heap.size w w':=by
 obtain ⟨r,wr,x,a,n,s⟩:=t
 unfold attV attC
 simp only
 rw [show numB acc 2=(decide (0≤acc)&&decide (acc≤2)) from by simp [numB]]
 cases h0:decide (0≤acc)
 all_goals
  go_enter Tryz.func250,Tryz.ntmps250
  go_wp2
  go_ret
  exact ⟨by first | rfl | simp,by go_grown⟩
theorem attDo_any (t:Atr) (acc:Int) (w:World) :
  Calls Tryz.prog 251 #[attV t acc] w fun e w'=>e=.returned (.bool (mayA t acc))∧Below w.heap.size w w':=by
 obtain ⟨r,wr,x,a,n,s⟩:=t
 unfold attV attC
 unfold mayA
 simp only
 by_cases h0:acc=0
 ·subst h0
  cases r
  all_goals
   go_enter Tryz.func251,Tryz.ntmps251
   go_wp2
   go_ret
   exact ⟨rfl,by go_grown⟩
 by_cases h1:acc=1
 ·subst h1
  cases wr
  all_goals
   go_enter Tryz.func251,Tryz.ntmps251
   go_wp2
   go_ret
   exact ⟨rfl,by go_grown⟩
 by_cases h2:acc=2
 ·subst h2
  cases x
  all_goals
   go_enter Tryz.func251,Tryz.ntmps251
   go_wp2
   go_ret
   exact ⟨rfl,by go_grown⟩
 ·rw [decide_eq_false h0,decide_eq_false h1,decide_eq_false h2]
  go_enter Tryz.func251,Tryz.ntmps251
  go_wp2
  go_ret
  exact ⟨rfl,by go_grown⟩
set_option maxHeartbeats 3200000 in
theorem mayP_any (t:Atr) (acc:Int) (w:World) :
  Calls Tryz.prog 229 #[atrV t,.int .i64 acc] w fun e w'=>e=.returned (.tuple #[.bool (numB acc 2&&mayA t acc),.int .i64 (if numB acc 2=true then 0 else 1)])∧Below w.heap.size w w':=by
 have HA:=Lib.hid (fun W=>attemptOf_any t acc W)
 have HB:=Lib.hid (fun W=>attMay_any t acc W)
 have HD:=Lib.hid (fun W=>attDo_any t acc W)
 generalize mayA t acc=m at *
 generalize numB acc 2=b at *
 obtain ⟨r,wr,x,a,n,s⟩:=t
 unfold attV attC at *
 unfold atrV atrC at *
 simp only at *
 have A0:=Lib.hid (BoxAt.new w #[.bool r,.bool wr,.bool x,.bool a,.bool n,.int .i64 s] 119)
 have B0:=Lib.hid (bel_alloc (Below.refl w.heap.size w) (.cells #[.bool r,.bool wr,.bool x,.bool a,.bool n,.int .i64 s] 119))
 go_enter Tryz.func229,Tryz.ntmps229
 go_upto_region 1 with fail
 obtain ⟨W0,hW0⟩:∃ W0,W0=w.alloc (.cells #[.bool r,.bool wr,.bool x,.bool a,.bool n,.int .i64 s] 119):=⟨_,rfl⟩
 rw [← hW0] at A0 B0 ⊢
 clear hW0
 have Ac0:=A0.out.get 0 (.bool r) rfl
 have Ac1:=A0.out.get 1 (.bool wr) rfl
 have Ac2:=A0.out.get 2 (.bool x) rfl
 have Ac3:=A0.out.get 3 (.bool a) rfl
 have Ac4:=A0.out.get 4 (.bool n) rfl
 have Ac5:=A0.out.get 5 (.int .i64 s) rfl
 go_wp2_with fail
 refine (HA.out _).mono ?_
 rintro e w11 ⟨rfl,hb11⟩
 have A12:=Lib.hid (A0.out.below hb11)
 have B12:=Lib.hid (bel_trans B0.out hb11)
 clear Ac0 Ac1 Ac2 Ac3 Ac4 Ac5
 clear A0 B0 hb11
 go_upto_region 2 with fail
 have A13:=Lib.hid ((A12.out.alloc (.cells #[.bool r,.bool wr,.bool x,.bool a,.bool n,.int .i64 s,.int .i64 acc] 317)))
 have T13:=Lib.hid ((BoxAt.newAt (w11) #[.bool r,.bool wr,.bool x,.bool a,.bool n,.int .i64 s,.int .i64 acc] 317 (w11.heap.size) (by first | rfl | (simp;done) | (simp;omega))))
 have B13:=Lib.hid ((bel_alloc B12.out (.cells #[.bool r,.bool wr,.bool x,.bool a,.bool n,.int .i64 s,.int .i64 acc] 317)))
 clear A12 B12
 obtain ⟨W2,hW2⟩:∃ W2,W2=w11.alloc (.cells #[.bool r,.bool wr,.bool x,.bool a,.bool n,.int .i64 s,.int .i64 acc] 317):=⟨_,rfl⟩
 obtain ⟨bT,hbT⟩:∃ bT,bT=w11.heap.size:=⟨_,rfl⟩
 rw [← hW2] at A13 T13 B13 ⊢
 rw [← hbT] at T13 ⊢
 clear hW2 hbT
 have Tc0:=T13.out.get 0 (.bool r) rfl
 have Tc1:=T13.out.get 1 (.bool wr) rfl
 have Tc2:=T13.out.get 2 (.bool x) rfl
 have Tc3:=T13.out.get 3 (.bool a) rfl
 have Tc4:=T13.out.get 4 (.bool n) rfl
 have Tc5:=T13.out.get 5 (.int .i64 s) rfl
 have Tc6:=T13.out.get 6 (.int .i64 acc) rfl
 go_wp2_with fail
 refine (HB.out _).mono ?_
 rintro e w14 ⟨rfl,hb14⟩
 have A15:=Lib.hid (A13.out.below hb14)
 have T15:=Lib.hid (T13.out.below hb14)
 have B15:=Lib.hid (bel_trans B13.out hb14)
 clear Tc0 Tc1 Tc2 Tc3 Tc4 Tc5 Tc6
 clear A13 T13 B13 hb14
 cases b
 ·go_wp2
  go_ret2
  exact ⟨rfl,B15.out⟩
 ·have Tc0:=T15.out.get 0 (.bool r) rfl
  have Tc1:=T15.out.get 1 (.bool wr) rfl
  have Tc2:=T15.out.get 2 (.bool x) rfl
  have Tc3:=T15.out.get 3 (.bool a) rfl
  have Tc4:=T15.out.get 4 (.bool n) rfl
  have Tc5:=T15.out.get 5 (.int .i64 s) rfl
  have Tc6:=T15.out.get 6 (.int .i64 acc) rfl
  go_wp2_with fail
  refine (HD.out _).mono ?_
  rintro e w16 ⟨rfl,hb16⟩
  have A17:=Lib.hid (A15.out.below hb16)
  have T17:=Lib.hid (T15.out.below hb16)
  have B17:=Lib.hid (bel_trans B15.out hb16)
  clear Tc0 Tc1 Tc2 Tc3 Tc4 Tc5 Tc6
  clear A15 T15 B15 hb16
  go_wp2
  go_ret2
  exact ⟨rfl,B17.out⟩
end
end Go.Proofs.YtlgpdbgingjpbaaGreat
