/- Plain walking: a region that draws its order and whose last operations write what earlier ones read: the invariant S0 holds behind every operation,S as long as none of those was carried out. Plain walking: a region that draws its order and whose last operations write what earlier ones read: those wait for the reads by a chain of operations. The reference's One,Next. Stage 13: what the program's calls are held against;the argument,opened;num,wakes. Permissions plainly;the reference's May,Both,Flag: contracts. Stage 6: what the program's calls are held against;the argument,opened;wakes. The program's May: contract. -/
import Derived.Test.YtlgpdbgingjpbaaGreatWd
import Derived.OrdersHeld
import Derived.StillTail
import Derived.Deep.RegionHeld3
import Derived.Test.YtlgpdbgingjpbaaGreatHb
import Derived.Test.YtlgpdbgingjpbaaGreatRe
import Derived.Test.YtlgpdbgingjpbaaGreatKt
import Derived.Test.YtlgpdbgingjpbaaGreatEq
import Derived.Test.YtlgpdbgingjpbaaGreatHa
import Derived.Test.YtlgpdbgingjpbaaGreatEj
import Derived.Deep.CutBlock
import Derived.Deep.DeepCutAuto
set_option linter.all false
namespace Go.Proofs.YtlgpdbgingjpbaaGreat
section
open Go.RowKit
section
variable {P:Program} {ops:Array Oper} {Q:Exit→Act→World→Prop} {md:Region.Mode} {S0 S:World→Prop} {T:List Nat}
def CondT (S0 S:World→Prop) (T:List Nat) (listed:Array Bool) (w:World):Prop:=S0 w∧((∀ t∈T,listed.getD t true=false)→S w)
theorem CondT.same {listed listed':Array Bool} {w:World} (h:CondT S0 S T listed w) (hu:∀ t∈T,listed'.getD t true=listed.getD t true):CondT S0 S T listed' w:=
 ⟨h.1,fun h2=>h.2 fun t ht=>(hu t ht).symm.trans (h2 t ht)⟩
end
end
section
open Go.RowKit
section
variable {P:Program} {ops:Array Oper} {Q:Exit→Act→World→Prop} {md:Region.Mode} {S0 S:World→Prop} {T:List Nat}
end
end
section
open Go.ChangeShapes Go.WideShapes Go.ChangeAt Go.RowKit Go.Deep
def oneR (r:Rg):Rt:=⟨flagW r.sc 0,(ofT (r.tt&&& ~~~1#64)).f,(ofT (r.tt&&& ~~~1#64)).t⟩
end
section
open Go.ChangeShapes Go.WideShapes Go.ChangeAt Go.RowKit Go.Deep
def rtV (r:Rt):Value:=.agg #[.bool r.o,.int .i64 r.f,.int .i64 r.t]
def RgOneC:Prop:=∀ (r:Rg) (w:World),Calls Tryz.prog 112 #[regV r] w fun e w'=>e=.returned (rtV (oneR r))∧Below w.heap.size w w'
def RgNextC:Prop:=∀ (r:Rg) (f:Option Addr) (l c:Nat) (X:Nat→Int) (w:World),NumsAt w f l X→l≤1000000→
 Calls Tryz.prog 121 #[regV r,.slice f l c] w fun e w'=>e=.returned (regV (nextR r X l))∧Below w.heap.size w w'
structure Q13 where
 r:Rg
 k:Int
 v:BitVec 64
 f:Option Addr
 l:Nat
 c:Nat
 X:Nat→Int
structure Ok13 (W:World) (q:Q13):Prop where
 nums:NumsAt W q.f q.l q.X
 n1:q.l≤1000000000000000
theorem Ok13.below {W w:World} {q:Q13} (h:Ok13 W q) (hb:Below W.heap.size W w):Ok13 w q:=⟨h.nums.below hb,h.n1⟩
section
variable {H:Type} {enc:TypeId×Value→H} {w:World} {base:Nat} {held:Bool}
end
end
section
open Go.ChangeShapes Go.WideShapes Go.ChangeAt Go.RowKit Go.Deep
def mayA (t:Atr) (acc:Int):Bool:=((decide (acc=0)&&t.r)||(decide (acc=1)&&t.w))||(decide (acc=2)&&t.x)
def flagA (t:Atr) (acc st lv pg:Int):Flt:=if t.a=false then ⟨3,st,lv,false,pg⟩ else if mayA t acc=false then ⟨4,st,lv,false,pg⟩ else flt0
def bothS (x a:Atr):Atr:=⟨x.r&&a.r,x.w&&a.w,x.x&&a.x,x.a&&a.a,x.n||a.n,x.s⟩
def both1:Atr:=⟨true,true,true,true,false,0⟩
def bothL (L:List Atr):Atr:=L.foldl bothS both1
def KA:RowK Atr where
 ts:=291
 t:=119
 N:=6
 B:=16
 z:=.agg #[.bool false,.bool false,.bool false,.bool false,.bool false,.int .i64 0]
 V:=atrC
 pos:=by decide
 small:=by decide
 size:=fun _=>rfl
 one:=fun q v hv=>by
  simp only [atrC,List.mem_cons,List.not_mem_nil,or_false] at hv
  rcases hv with rfl | rfl | rfl | rfl | rfl | rfl<;>rfl
 under:=Tryz.underlying291
 info:=by kernel_rfl
 zs:=rfl
theorem both_take (L:List Atr) (k:Nat) (t:Atr) (h:L[k]?=some t):bothL (L.take (k+1))=bothS (bothL (L.take k)) t:=by
 unfold bothL
 rw [List.take_add_one,h,List.foldl_append]
 rfl
end
section
open Go.ChangeShapes Go.WideShapes Go.ChangeAt Go.RowKit Go.Deep
def MayC:Prop:=∀ (t:Atr) (acc:Int) (w:World),
 Calls Tryz.prog 229 #[atrV t,.int .i64 acc] w fun e w'=>e=.returned (.tuple #[.bool (numB acc 2&&mayA t acc),.int .i64 (if numB acc 2=true then 0 else 1)])∧Below w.heap.size w w'
def FlagC:Prop:=∀ (t:Atr) (acc st lv pg:Int) (w:World),
 Calls Tryz.prog 285 #[atrV t,.int .i64 acc,.int .i64 st,.int .i64 lv,.int .i64 pg] w fun e w'=>e=.returned (.tuple #[fltV (if numB acc 2=true then flagA t acc st lv pg else flt0),.int .i64 (if numB acc 2=true then 0 else 1)])∧Below w.heap.size w w'
def BothC:Prop:=∀ (f:Option Addr) (n c:Nat) (L:List Atr) (w:World),RowsAt KA w f L→n=L.length→L.length≤100000→
 Calls Tryz.prog 258 #[.slice f n c] w fun e w'=>e=.returned (atrV (bothL L))∧Below w.heap.size w w'
structure Q6 where
 f:Option Addr
 n:Nat
 c:Nat
 L:List Atr
 acc:Int
 st:Int
 lv:Int
 pg:Int
structure Ok6 (W:World) (q:Q6):Prop where
 rows:RowsAt KA W q.f q.L
 len:q.n=q.L.length
 n1:q.n≤1000000000000000
 nil:q.f=none→q.c=0
theorem Ok6.below {W w:World} {q:Q6} (h:Ok6 W q) (hb:Below W.heap.size W w):Ok6 w q:=⟨h.rows.below hb,h.len,h.n1,h.nil⟩
section
variable {H:Type} {enc:TypeId×Value→H} {w:World} {base:Nat} {held:Bool}
end
end
section
open Go.ChangeShapes Go.WideShapes Go.ChangeAt Go.RowKit Go.Deep
def attC (t:Atr) (acc:Int):Array Value:=#[.bool t.r,.bool t.w,.bool t.x,.bool t.a,.bool t.n,.int .i64 t.s,.int .i64 acc]
def attV (t:Atr) (acc:Int):Value:=.agg (attC t acc)
theorem attemptOf_any (t:Atr) (acc:Int) (w:World) :
  Calls Tryz.prog 249 #[atrV t,.int .i64 acc] w fun e w'=>e=.returned (attV t acc)∧Below w.heap.size w w':=by
 obtain ⟨r,wr,x,a,n,s⟩:=t
 unfold attV attC atrV atrC
 go_enter Tryz.func249,Tryz.ntmps249
 go_wp2
 go_returns
 exact ⟨rfl,by go_grown⟩
theorem attMay_any (t:Atr) (acc:Int) (w:World) :
  Calls Tryz.prog 250 #[attV t acc] w fun e w'=>e=.returned (.bool (numB acc 2))∧Below w.heap.size w w':=by
 obtain ⟨r,wr,x,a,n,s⟩:=t
 unfold attV attC
 simp only
 rw [show numB acc 2=(decide (0≤acc)&&decide (acc≤2)) from by simp [numB]]
 cases h0:decide (0≤acc)
 all_goals
  go_enter Tryz.func250,Tryz.ntmps250
  go_wp2
  go_ret
  exact ⟨by first | rfl | simp,by go_grown⟩
theorem attDo_any (t:Atr) (acc:Int) (w:World) :
  Calls Tryz.prog 251 #[attV t acc] w fun e w'=>e=.returned (.bool (mayA t acc))∧Below w.heap.size w w':=by
 obtain ⟨r,wr,x,a,n,s⟩:=t
 unfold attV attC
 unfold mayA
 simp only
 by_cases h0:acc=0
 ·subst h0
  cases r
  all_goals
   go_enter Tryz.func251,Tryz.ntmps251
   go_wp2
   go_ret
   exact ⟨rfl,by go_grown⟩
 by_cases h1:acc=1
 ·subst h1
  cases wr
  all_goals
   go_enter Tryz.func251,Tryz.ntmps251
   go_wp2
   go_ret
   exact ⟨rfl,by go_grown⟩
 by_cases h2:acc=2
 ·subst h2
  cases x
  all_goals
   go_enter Tryz.func251,Tryz.ntmps251
   go_wp2
   go_ret
   exact ⟨rfl,by go_grown⟩
 ·rw [decide_eq_false h0,decide_eq_false h1,decide_eq_false h2]
  go_enter Tryz.func251,Tryz.ntmps251
  go_wp2
  go_ret
  exact ⟨rfl,by go_grown⟩
set_option maxHeartbeats 3200000 in
theorem mayP_any (t:Atr) (acc:Int) (w:World) :
  Calls Tryz.prog 229 #[atrV t,.int .i64 acc] w fun e w'=>e=.returned (.tuple #[.bool (numB acc 2&&mayA t acc),.int .i64 (if numB acc 2=true then 0 else 1)])∧Below w.heap.size w w':=by
 have HA:=Lib.hid (fun W=>attemptOf_any t acc W)
 have HB:=Lib.hid (fun W=>attMay_any t acc W)
 have HD:=Lib.hid (fun W=>attDo_any t acc W)
 generalize mayA t acc=m at *
 generalize numB acc 2=b at *
 obtain ⟨r,wr,x,a,n,s⟩:=t
 unfold attV attC at *
 unfold atrV atrC at *
 simp only at *
 have A0:=Lib.hid (BoxAt.new w #[.bool r,.bool wr,.bool x,.bool a,.bool n,.int .i64 s] 119)
 have B0:=Lib.hid (bel_alloc (Below.refl w.heap.size w) (.cells #[.bool r,.bool wr,.bool x,.bool a,.bool n,.int .i64 s] 119))
 go_enter Tryz.func229,Tryz.ntmps229
 go_upto_region 1 with fail
 obtain ⟨W0,hW0⟩:∃ W0,W0=w.alloc (.cells #[.bool r,.bool wr,.bool x,.bool a,.bool n,.int .i64 s] 119):=⟨_,rfl⟩
 rw [← hW0] at A0 B0 ⊢
 clear hW0
 have Ac0:=A0.out.get 0 (.bool r) rfl
 have Ac1:=A0.out.get 1 (.bool wr) rfl
 have Ac2:=A0.out.get 2 (.bool x) rfl
 have Ac3:=A0.out.get 3 (.bool a) rfl
 have Ac4:=A0.out.get 4 (.bool n) rfl
 have Ac5:=A0.out.get 5 (.int .i64 s) rfl
 go_wp2_with fail
 refine (HA.out _).mono ?_
 rintro e w11 ⟨rfl,hb11⟩
 have A12:=Lib.hid (A0.out.below hb11)
 have B12:=Lib.hid (bel_trans B0.out hb11)
 clear Ac0 Ac1 Ac2 Ac3 Ac4 Ac5
 clear A0 B0 hb11
 go_upto_region 2 with fail
 have A13:=Lib.hid ((A12.out.alloc (.cells #[.bool r,.bool wr,.bool x,.bool a,.bool n,.int .i64 s,.int .i64 acc] 317)))
 have T13:=Lib.hid ((BoxAt.newAt (w11) #[.bool r,.bool wr,.bool x,.bool a,.bool n,.int .i64 s,.int .i64 acc] 317 (w11.heap.size) (by first | rfl | (simp;done) | (simp;omega))))
 have B13:=Lib.hid ((bel_alloc B12.out (.cells #[.bool r,.bool wr,.bool x,.bool a,.bool n,.int .i64 s,.int .i64 acc] 317)))
 clear A12 B12
 obtain ⟨W2,hW2⟩:∃ W2,W2=w11.alloc (.cells #[.bool r,.bool wr,.bool x,.bool a,.bool n,.int .i64 s,.int .i64 acc] 317):=⟨_,rfl⟩
 obtain ⟨bT,hbT⟩:∃ bT,bT=w11.heap.size:=⟨_,rfl⟩
 rw [← hW2] at A13 T13 B13 ⊢
 rw [← hbT] at T13 ⊢
 clear hW2 hbT
 have Tc0:=T13.out.get 0 (.bool r) rfl
 have Tc1:=T13.out.get 1 (.bool wr) rfl
 have Tc2:=T13.out.get 2 (.bool x) rfl
 have Tc3:=T13.out.get 3 (.bool a) rfl
 have Tc4:=T13.out.get 4 (.bool n) rfl
 have Tc5:=T13.out.get 5 (.int .i64 s) rfl
 have Tc6:=T13.out.get 6 (.int .i64 acc) rfl
 go_wp2_with fail
 refine (HB.out _).mono ?_
 rintro e w14 ⟨rfl,hb14⟩
 have A15:=Lib.hid (A13.out.below hb14)
 have T15:=Lib.hid (T13.out.below hb14)
 have B15:=Lib.hid (bel_trans B13.out hb14)
 clear Tc0 Tc1 Tc2 Tc3 Tc4 Tc5 Tc6
 clear A13 T13 B13 hb14
 cases b
 ·go_wp2
  go_ret2
  exact ⟨rfl,B15.out⟩
 ·have Tc0:=T15.out.get 0 (.bool r) rfl
  have Tc1:=T15.out.get 1 (.bool wr) rfl
  have Tc2:=T15.out.get 2 (.bool x) rfl
  have Tc3:=T15.out.get 3 (.bool a) rfl
  have Tc4:=T15.out.get 4 (.bool n) rfl
  have Tc5:=T15.out.get 5 (.int .i64 s) rfl
  have Tc6:=T15.out.get 6 (.int .i64 acc) rfl
  go_wp2_with fail
  refine (HD.out _).mono ?_
  rintro e w16 ⟨rfl,hb16⟩
  have A17:=Lib.hid (A15.out.below hb16)
  have T17:=Lib.hid (T15.out.below hb16)
  have B17:=Lib.hid (bel_trans B15.out hb16)
  clear Tc0 Tc1 Tc2 Tc3 Tc4 Tc5 Tc6
  clear A15 T15 B15 hb16
  go_wp2
  go_ret2
  exact ⟨rfl,B17.out⟩
end
end Go.Proofs.YtlgpdbgingjpbaaGreat
