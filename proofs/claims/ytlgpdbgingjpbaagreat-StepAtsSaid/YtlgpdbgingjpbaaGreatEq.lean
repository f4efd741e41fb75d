/- Walks,plainly: hits,faults,what one stage makes of a page. '==' of hits,faults and attributes. -/
import Derived.Test.YtlgpdbgingjpbaaGreatHa
import Derived.Test.YtlgpdbgingjpbaaGreatWd
import Derived.Laws.StructEq
set_option linter.all false
namespace Go.Proofs.YtlgpdbgingjpbaaGreat
section
open Go.RowKit
structure Atr where
 r:Bool
 w:Bool
 x:Bool
 a:Bool
 n:Bool
 s:Int
deriving DecidableEq
structure Hit where
 f:Int
 m:Int
 t:Atr
 l:Int
deriving DecidableEq
structure Flt where
 k:Int
 st:Int
 lv:Int
 w:Bool
 p:Int
deriving DecidableEq
def atr0:Atr:=⟨false,false,false,false,false,0⟩
def hit0:Hit:=⟨0,0,atr0,0⟩
def flt0:Flt:=⟨0,0,0,false,0⟩
def Dsc.at' (d:Dsc):Atr:=⟨d.r,d.w,d.x,d.a,d.n,d.s⟩
def fltV (f:Flt):Value:=.agg #[.int .i64 f.k,.int .i64 f.st,.int .i64 f.lv,.bool f.w,.int .i64 f.p]
def hitV (h:Hit):Value:=.agg #[.int .i64 h.f,.int .i64 h.m,.bool h.t.r,.bool h.t.w,.bool h.t.x,.bool h.t.a,.bool h.t.n,.int .i64 h.t.s,.int .i64 h.l]
def atrC (t:Atr):Array Value:=#[.bool t.r,.bool t.w,.bool t.x,.bool t.a,.bool t.n,.int .i64 t.s]
def atrV (t:Atr):Value:=.agg (atrC t)
def eqH (a b:Hit):Bool:=decide (a=b)
def eqF (a b:Flt):Bool:=decide (a=b)
def eqA (a b:Atr):Bool:=decide (a=b)
theorem eqA_self (a:Atr):eqA a a=true:=by simp [eqA]
def idxI (lv p:Int):Int:=p / cov lv % 8
def tblD (X:Nat→BitVec 64) (st lv fr pg:Int):Dsc:=ofD st lv (X (fr * 8+idxI lv pg).toNat)
def walkS (N:Int) (T:Int→Int→Dsc) (st pg:Int):Nat→Int→Int→List Int→Hit×Flt×List Int
 | 0,lv,_,R=>(hit0,⟨0,st,lv - 1,false,pg⟩,R)
 | n+1,lv,fr,R=>
  if N≤fr then (hit0,⟨1,st,lv,false,pg⟩,R)
  else if (T lv fr).k=1 then walkS N T st pg n (lv+1) (T lv fr).f (R++[fr])
  else if (T lv fr).k=0 then (hit0,⟨2,st,lv,false,pg⟩,R++[fr])
  else if N≤(T lv fr).f+pg % cov lv then (hit0,⟨1,st,lv,false,pg⟩,R++[fr])
  else (⟨(T lv fr).f+pg % cov lv,0,(T lv fr).at',lv⟩,flt0,R++[fr])
def walkD (l:Nat) (X:Nat→BitVec 64) (st fr pg:Int):Hit×Flt×List Int:=walkS ((l:Int) / 8) (fun lv f=>tblD X st lv f pg) st pg 4 0 fr []
theorem of_kind (st lv:Int) (v:BitVec 64):(ofD st lv v).k=0∨((ofD st lv v).k=1∧lv≠3)∨(ofD st lv v).k=2:=by
 unfold ofD
 split
 ·rename_i h
  have hm:=h.1
  unfold mayD at hm
  by_cases h0:(readD st lv v).k=0
  ·exact .inl h0
  ·rw [if_neg h0] at hm
   by_cases h1:(readD st lv v).k=1
   ·rw [if_pos h1] at hm
    refine .inr (.inl ⟨h1,?_⟩)
    unfold tableD at hm
    simp only [Bool.and_eq_true,decide_eq_true_eq] at hm
    exact hm.2.1
   ·rw [if_neg h1] at hm
    by_cases h2:(readD st lv v).k=2
    ·exact .inr (.inr h2)
    ·rw [if_neg h2] at hm;cases hm
 ·exact .inl rfl
theorem of_frame (st lv:Int) (v:BitVec 64):0≤(ofD st lv v).f∧(ofD st lv v).f≤4095:=by
 have hk:=of_cases st lv v
 rcases hk with h | ⟨h,_⟩
 ·rw [h];exact ⟨by decide,by decide⟩
 ·generalize ofD st lv v=d at h
  unfold mayD at h
  by_cases h0:d.k=0
  ·rw [if_pos h0] at h
   unfold noneD at h
   simp only [Bool.and_eq_true,eqD_iff] at h
   rw [h.1]
   exact ⟨Int.le_refl 0,show (0:Int)≤4095 by decide⟩
  ·rw [if_neg h0] at h
   by_cases h1:d.k=1
   ·rw [if_pos h1] at h
    unfold tableD at h
    simp only [Bool.and_eq_true,numB_iff] at h
    exact h.2.2
   ·rw [if_neg h1] at h
    by_cases h2:d.k=2
    ·rw [if_pos h2] at h
     unfold leafD at h
     simp only [Bool.and_eq_true,numB_iff] at h
     exact h.2.2.1
    ·rw [if_neg h2] at h;cases h
theorem idx_lo (lv p:Int):0≤idxI lv p∧idxI lv p≤7:=by unfold idxI;omega
theorem tbl_kind (X:Nat→BitVec 64) (st lv fr pg:Int):(tblD X st lv fr pg).k=0∨((tblD X st lv fr pg).k=1∧lv≠3)∨(tblD X st lv fr pg).k=2:=of_kind _ _ _
theorem tbl_frame (X:Nat→BitVec 64) (st lv fr pg:Int):0≤(tblD X st lv fr pg).f∧(tblD X st lv fr pg).f≤4095:=of_frame _ _ _
section
variable {N:Int} {T:Int→Int→Dsc} {st pg:Int} {n:Nat} {lv fr:Int} {R:List Int}
theorem walkS_size (h:N≤fr):walkS N T st pg (n+1) lv fr R=(hit0,⟨1,st,lv,false,pg⟩,R):=by rw [walkS,if_pos h]
theorem walkS_table (h:¬ N≤fr) (hk:(T lv fr).k=1):walkS N T st pg (n+1) lv fr R=walkS N T st pg n (lv+1) (T lv fr).f (R++[fr]):=by rw [walkS,if_neg h,if_pos hk]
theorem walkS_none (h:¬ N≤fr) (hk:(T lv fr).k=0):walkS N T st pg (n+1) lv fr R=(hit0,⟨2,st,lv,false,pg⟩,R++[fr]):=by
 rw [walkS,if_neg h,if_neg (by omega),if_pos hk]
theorem walkS_far (h:¬ N≤fr) (hk:(T lv fr).k=2) (hs:N≤(T lv fr).f+pg % cov lv):walkS N T st pg (n+1) lv fr R=(hit0,⟨1,st,lv,false,pg⟩,R++[fr]):=by
 rw [walkS,if_neg h,if_neg (by omega),if_neg (by omega),if_pos hs]
theorem walkS_leaf (h:¬ N≤fr) (hk:(T lv fr).k=2) (hs:¬ N≤(T lv fr).f+pg % cov lv):walkS N T st pg (n+1) lv fr R=(⟨(T lv fr).f+pg % cov lv,0,(T lv fr).at',lv⟩,flt0,R++[fr]):=by
 rw [walkS,if_neg h,if_neg (by omega),if_neg (by omega),if_neg hs]
end
theorem walkS_read (N:Int) (T:Int→Int→Dsc) (st pg:Int) (hk:∀ lv fr,(T lv fr).k=0∨((T lv fr).k=1∧lv≠3)∨(T lv fr).k=2) (hf:∀ lv fr,0≤(T lv fr).f) (hp:0≤pg) :
  ∀ (n:Nat) (lv fr:Int) (R:List Int),1≤n→lv=4 - n→0≤fr→(R.length:Int)=lv→(∀ x∈R,0≤x∧x < N)→
   (walkS N T st pg n lv fr R).2.2.length≤4∧(∀ x∈(walkS N T st pg n lv fr R).2.2,0≤x∧x < N)∧
   (((walkS N T st pg n lv fr R).2.1=flt0∧(walkS N T st pg n lv fr R).1.l=((walkS N T st pg n lv fr R).2.2.length:Int) - 1∧0≤(walkS N T st pg n lv fr R).1.f∧(walkS N T st pg n lv fr R).1.f < N)∨
    ((walkS N T st pg n lv fr R).2.1.k≠0∧(walkS N T st pg n lv fr R).1=hit0∧(walkS N T st pg n lv fr R).2.1.st=st∧(walkS N T st pg n lv fr R).2.1.p=pg∧((walkS N T st pg n lv fr R).2.1.lv=((walkS N T st pg n lv fr R).2.2.length:Int)∨(walkS N T st pg n lv fr R).2.1.lv=((walkS N T st pg n lv fr R).2.2.length:Int) - 1)))
 | 0,_,_,_,h,_,_,_,_=>by omega
 | n+1,lv,fr,R,_,hl,h0,hR,hx=>by
  by_cases h:N≤fr
  ·rw [walkS_size h]
   exact ⟨by simp only;omega,hx,.inr ⟨by simp,rfl,rfl,rfl,.inl (by simp only;omega)⟩⟩
  ·have hx':∀ x∈R++[fr],0≤x∧x < N:=by
    intro x hm
    rcases List.mem_append.1 hm with hm | hm
    ·exact hx x hm
    ·simp at hm;subst hm;omega
   have hlen:((R++[fr]).length:Int)=lv+1:=by simp;omega
   rcases hk lv fr with hk0 | ⟨hk1,h3⟩ | hk2
   ·rw [walkS_none h hk0]
    exact ⟨by simp only;omega,hx',.inr ⟨by simp,rfl,rfl,rfl,.inr (by simp only;omega)⟩⟩
   ·rw [walkS_table h hk1]
    exact walkS_read N T st pg hk hf hp n (lv+1) _ _ (by omega) (by omega) (hf lv fr) (by omega) hx'
   ·by_cases hs:N≤(T lv fr).f+pg % cov lv
    ·rw [walkS_far h hk2 hs]
     exact ⟨by simp only;omega,hx',.inr ⟨by simp,rfl,rfl,rfl,.inr (by simp only;omega)⟩⟩
    ·rw [walkS_leaf h hk2 hs]
     have:=hf lv fr
     have hc:=cov_pos lv
     have:0≤pg % cov lv:=Int.emod_nonneg _ (by omega)
     exact ⟨by simp only;omega,hx',.inl ⟨rfl,by simp only;omega,by simp only;omega,by simp only;omega⟩⟩
end
section
open Go.ChangeShapes Go.WideShapes Go.ChangeAt Go.RowKit Go.Deep
theorem eq_hit (f m:Int) (r wr x a n:Bool) (s l:Int) (f' m':Int) (r' wr' x' a' n':Bool) (s' l':Int) (w:World) :
  (Op.equalIn 10000 235 (.agg #[.int .i64 f,.int .i64 m,.bool r,.bool wr,.bool x,.bool a,.bool n,.int .i64 s,.int .i64 l]) (.agg #[.int .i64 f',.int .i64 m',.bool r',.bool wr',.bool x',.bool a',.bool n',.int .i64 s',.int .i64 l'])).run Tryz.prog w=.ok (eqH ⟨f,m,⟨r,wr,x,a,n,s⟩,l⟩ ⟨f',m',⟨r',wr',x',a',n',s'⟩,l'⟩) w:=by
 rw [run_equalIn_agg w 9999 _ _ _ (by kernel_rfl) (by kernel_rfl)]
 simp only [Program.fieldsOf,Tryz.underlying235]
 simp [go_sem,eqH]
 by_cases h0:f=f'
 rotate_left
 ·simp [h0]
 by_cases h1:m=m'
 rotate_left
 ·simp [h0,h1]
 by_cases h2:r=r'
 rotate_left
 ·simp [h0,h1,h2]
 by_cases h3:wr=wr'
 rotate_left
 ·simp [h0,h1,h2,h3]
 by_cases h4:x=x'
 rotate_left
 ·simp [h0,h1,h2,h3,h4]
 by_cases h5:a=a'
 rotate_left
 ·simp [h0,h1,h2,h3,h4,h5]
 by_cases h6:n=n'
 rotate_left
 ·simp [h0,h1,h2,h3,h4,h5,h6]
 by_cases h7:s=s'
 rotate_left
 ·simp [h0,h1,h2,h3,h4,h5,h6,h7]
 by_cases h8:l=l'
 rotate_left
 ·simp [h0,h1,h2,h3,h4,h5,h6,h7,h8]
 simp [h0,h1,h2,h3,h4,h5,h6,h7,h8]
@[go_sem high] theorem eql_hit (f m:Int) (r wr x a n:Bool) (s l:Int) (f' m':Int) (r' wr' x' a' n':Bool) (s' l':Int) (w:World) :
  (binOp .eql 235 (.agg #[.int .i64 f,.int .i64 m,.bool r,.bool wr,.bool x,.bool a,.bool n,.int .i64 s,.int .i64 l]) (.agg #[.int .i64 f',.int .i64 m',.bool r',.bool wr',.bool x',.bool a',.bool n',.int .i64 s',.int .i64 l'])).run Tryz.prog w=.ok (.bool (eqH ⟨f,m,⟨r,wr,x,a,n,s⟩,l⟩ ⟨f',m',⟨r',wr',x',a',n',s'⟩,l'⟩)) w:=by
 rw [run_eql_struct,eq_hit];rfl
@[go_sem high] theorem neq_hit (f m:Int) (r wr x a n:Bool) (s l:Int) (f' m':Int) (r' wr' x' a' n':Bool) (s' l':Int) (w:World) :
  (binOp .neq 235 (.agg #[.int .i64 f,.int .i64 m,.bool r,.bool wr,.bool x,.bool a,.bool n,.int .i64 s,.int .i64 l]) (.agg #[.int .i64 f',.int .i64 m',.bool r',.bool wr',.bool x',.bool a',.bool n',.int .i64 s',.int .i64 l'])).run Tryz.prog w=.ok (.bool (!eqH ⟨f,m,⟨r,wr,x,a,n,s⟩,l⟩ ⟨f',m',⟨r',wr',x',a',n',s'⟩,l'⟩)) w:=by
 rw [run_neq_struct,eq_hit];rfl
theorem eq_flt (k st lv:Int) (wk:Bool) (p:Int) (k' st' lv':Int) (wk':Bool) (p':Int) (w:World) :
  (Op.equalIn 10000 43 (.agg #[.int .i64 k,.int .i64 st,.int .i64 lv,.bool wk,.int .i64 p]) (.agg #[.int .i64 k',.int .i64 st',.int .i64 lv',.bool wk',.int .i64 p'])).run Tryz.prog w=.ok (eqF ⟨k,st,lv,wk,p⟩ ⟨k',st',lv',wk',p'⟩) w:=by
 rw [run_equalIn_agg w 9999 _ _ _ (by kernel_rfl) (by kernel_rfl)]
 simp only [Program.fieldsOf,Tryz.underlying43]
 simp [go_sem,eqF]
 by_cases h0:k=k'
 rotate_left
 ·simp [h0]
 by_cases h1:st=st'
 rotate_left
 ·simp [h0,h1]
 by_cases h2:lv=lv'
 rotate_left
 ·simp [h0,h1,h2]
 by_cases h3:wk=wk'
 rotate_left
 ·simp [h0,h1,h2,h3]
 by_cases h4:p=p'
 rotate_left
 ·simp [h0,h1,h2,h3,h4]
 simp [h0,h1,h2,h3,h4]
@[go_sem high] theorem eql_flt (k st lv:Int) (wk:Bool) (p:Int) (k' st' lv':Int) (wk':Bool) (p':Int) (w:World) :
  (binOp .eql 43 (.agg #[.int .i64 k,.int .i64 st,.int .i64 lv,.bool wk,.int .i64 p]) (.agg #[.int .i64 k',.int .i64 st',.int .i64 lv',.bool wk',.int .i64 p'])).run Tryz.prog w=.ok (.bool (eqF ⟨k,st,lv,wk,p⟩ ⟨k',st',lv',wk',p'⟩)) w:=by
 rw [run_eql_struct,eq_flt];rfl
@[go_sem high] theorem neq_flt (k st lv:Int) (wk:Bool) (p:Int) (k' st' lv':Int) (wk':Bool) (p':Int) (w:World) :
  (binOp .neq 43 (.agg #[.int .i64 k,.int .i64 st,.int .i64 lv,.bool wk,.int .i64 p]) (.agg #[.int .i64 k',.int .i64 st',.int .i64 lv',.bool wk',.int .i64 p'])).run Tryz.prog w=.ok (.bool (!eqF ⟨k,st,lv,wk,p⟩ ⟨k',st',lv',wk',p'⟩)) w:=by
 rw [run_neq_struct,eq_flt];rfl
theorem eq_atr (r wr x a n:Bool) (s:Int) (r' wr' x' a' n':Bool) (s':Int) (w:World) :
  (Op.equalIn 10000 119 (.agg #[.bool r,.bool wr,.bool x,.bool a,.bool n,.int .i64 s]) (.agg #[.bool r',.bool wr',.bool x',.bool a',.bool n',.int .i64 s'])).run Tryz.prog w=.ok (eqA ⟨r,wr,x,a,n,s⟩ ⟨r',wr',x',a',n',s'⟩) w:=by
 rw [run_equalIn_agg w 9999 _ _ _ (by kernel_rfl) (by kernel_rfl)]
 simp only [Program.fieldsOf,Tryz.underlying119]
 simp [go_sem,eqA]
 by_cases h0:r=r'
 rotate_left
 ·simp [h0]
 by_cases h1:wr=wr'
 rotate_left
 ·simp [h0,h1]
 by_cases h2:x=x'
 rotate_left
 ·simp [h0,h1,h2]
 by_cases h3:a=a'
 rotate_left
 ·simp [h0,h1,h2,h3]
 by_cases h4:n=n'
 rotate_left
 ·simp [h0,h1,h2,h3,h4]
 by_cases h5:s=s'
 rotate_left
 ·simp [h0,h1,h2,h3,h4,h5]
 simp [h0,h1,h2,h3,h4,h5]
@[go_sem high] theorem eql_atr (r wr x a n:Bool) (s:Int) (r' wr' x' a' n':Bool) (s':Int) (w:World) :
  (binOp .eql 119 (.agg #[.bool r,.bool wr,.bool x,.bool a,.bool n,.int .i64 s]) (.agg #[.bool r',.bool wr',.bool x',.bool a',.bool n',.int .i64 s'])).run Tryz.prog w=.ok (.bool (eqA ⟨r,wr,x,a,n,s⟩ ⟨r',wr',x',a',n',s'⟩)) w:=by
 rw [run_eql_struct,eq_atr];rfl
@[go_sem high] theorem neq_atr (r wr x a n:Bool) (s:Int) (r' wr' x' a' n':Bool) (s':Int) (w:World) :
  (binOp .neq 119 (.agg #[.bool r,.bool wr,.bool x,.bool a,.bool n,.int .i64 s]) (.agg #[.bool r',.bool wr',.bool x',.bool a',.bool n',.int .i64 s'])).run Tryz.prog w=.ok (.bool (!eqA ⟨r,wr,x,a,n,s⟩ ⟨r',wr',x',a',n',s'⟩)) w:=by
 rw [run_neq_struct,eq_atr];rfl
end
end Go.Proofs.YtlgpdbgingjpbaaGreat
