/- TLBs,plainly: entries,what takes them away,which are found. '==' of entries and of what takes them away. The reference's small calls on entries: contracts. The reference's loops over entries: contracts. Rows of entries and of what takes away: compared,copied. One's own slice of numbers lies in no block of structs. TLBs: copied,compared;what takes away,and which entry is of whom: contracts. The reference's Fill: contract. The reference's search of a TLB: contracts. The reference's Check of a TLB: contract. The reference's Walk: contract. The reference's Drop: contract. What was handed back is spoiled: contract. -/
import Derived.Test.YtlgpdbgingjpbaaGreatVp
import Derived.Test.YtlgpdbgingjpbaaGreatKt
import Derived.Test.YtlgpdbgingjpbaaGreatLt
import Derived.Laws.StructEq
import Derived.Test.YtlgpdbgingjpbaaGreatDb
import Derived.Test.YtlgpdbgingjpbaaGreatEj
import Derived.Deep.MidRow
set_option linter.all false
namespace Go.Proofs.YtlgpdbgingjpbaaGreat
section
open Go.ChangeShapes Go.WideShapes Go.ChangeAt Go.RowKit Go.Deep
structure Ety where
 k:Int
 vm:Int
 sp:Int
 al:Bool
 pg:Int
 lv:Int
 fr:Int
 mi:Int
 t:Atr
deriving DecidableEq
structure Inv where
 k:Int
 vm:Int
 sp:Int
 pg:Int
deriving DecidableEq
def entC (e:Ety):Array Value:=#[.int .i64 e.k,.int .i64 e.vm,.int .i64 e.sp,.bool e.al,.int .i64 e.pg,.int .i64 e.lv,.int .i64 e.fr,.int .i64 e.mi,.bool e.t.r,.bool e.t.w,.bool e.t.x,.bool e.t.a,.bool e.t.n,.int .i64 e.t.s]
def entV (e:Ety):Value:=.agg (entC e)
def invC (i:Inv):Array Value:=#[.int .i64 i.k,.int .i64 i.vm,.int .i64 i.sp,.int .i64 i.pg]
def invV (i:Inv):Value:=.agg (invC i)
def ent0:Ety:=⟨0,0,0,false,0,0,0,0,atr0⟩
def inv0:Inv:=⟨0,0,0,0⟩
def eqE (a b:Ety):Bool:=decide (a=b)
def eqI (a b:Inv):Bool:=decide (a=b)
theorem eqE_self (a:Ety):eqE a a=true:=by simp [eqE]
def KE:RowK Ety where
 ts:=74
 t:=121
 N:=14
 B:=80
 z:=.agg (entC ent0)
 V:=entC
 pos:=by decide
 small:=by decide
 size:=fun _=>rfl
 one:=fun q v hv=>by
  simp only [entC,List.mem_cons,List.not_mem_nil,or_false] at hv
  rcases hv with rfl | rfl | rfl | rfl | rfl | rfl | rfl | rfl | rfl | rfl | rfl | rfl | rfl | rfl<;>rfl
 under:=Tryz.underlying74
 info:=by kernel_rfl
 zs:=rfl
def KI:RowK Inv where
 ts:=75
 t:=132
 N:=4
 B:=32
 z:=.agg (invC inv0)
 V:=invC
 pos:=by decide
 small:=by decide
 size:=fun _=>rfl
 one:=fun q v hv=>by
  simp only [invC,List.mem_cons,List.not_mem_nil,or_false] at hv
  rcases hv with rfl | rfl | rfl | rfl<;>rfl
 under:=Tryz.underlying75
 info:=by kernel_rfl
 zs:=rfl
def abvP (lv p:Int):Int:=p - p % cov (lv - 1)
def mayEn (e:Ety):Bool:=numB e.vm 15&&(numB e.sp 15&&(numB e.pg 4095&&(numB e.fr 4095&&(numB e.mi 4095&&(decide (e.t.s=0)&&
 (if e.k=1 then decide (e.lv=0) else if e.k=2 then decide (e.sp=0)&&(e.al&&(decide (e.lv=0)&&(decide (e.mi=0)&&!e.t.n)))
  else if e.k=3 then decide (1≤e.lv)&&(decide (e.lv≤3)&&(decide (abvP e.lv e.pg=e.pg)&&(decide (e.mi=0)&&eqA e.t atr0))) else false))))))
def mayIn (i:Inv):Bool:=decide (1≤i.k)&&(decide (i.k≤6)&&(numB i.vm 15&&(numB i.sp 15&&numB i.pg 4095)))
def placeE (p:Ety→Bool):List Ety→Int→Int
 | [],_=>-1
 | x :: L,k=>if p x then k else placeE p L (k+1)
def inE (L:List Ety) (e:Ety):Int:=placeE (fun x=>eqE x e) L 0
def ofE (e:Ety) (vm sp:Int):Bool:=decide (e.vm=vm)&&(e.al||decide (e.sp=sp))
def isWh (vm sp pg acc:Int) (e:Ety):Bool:=decide (e.k=1)&&(ofE e vm sp&&(decide (e.pg=pg)&&mayA e.t acc))
def isMd (vm pg acc:Int) (e:Ety):Bool:=decide (e.k=2)&&(decide (e.vm=vm)&&(decide (e.pg=pg)&&mayA e.t acc))
def isWk (vm sp pg:Int) (e:Ety):Bool:=decide (e.k=3)&&(ofE e vm sp&&decide (e.pg=abvP e.lv pg))
def whole9 (E:List Ety) (vm sp pg acc:Int):Int:=placeE (isWh vm sp pg acc) E 0
def mid9 (E:List Ety) (vm pg acc:Int):Int:=placeE (isMd vm pg acc) E 0
def walkF (p:Ety→Bool):List Ety→Int→Int→Int→Int
 | [],_,at',_=>at'
 | x :: L,k,at',lv=>if p x&&(decide (at' < 0)||decide (lv < x.lv)) then walkF p L (k+1) k x.lv else walkF p L (k+1) at' lv
def walk9 (E:List Ety) (vm sp pg:Int):Int:=walkF (isWk vm sp pg) E 0 (-1) 0
def fill9 (E:List Ety) (e:Ety):List Ety:=if inE E e < 0∧E.length < 8 then E++[e] else E
def drop9 (E:List Ety) (i:Nat):List Ety:=E.take i++E.drop (i+1)
end
section
open Go.ChangeShapes Go.WideShapes Go.ChangeAt Go.RowKit Go.Deep
theorem eq_ent (k vm sp:Int) (al:Bool) (pg lv fr mi:Int) (r wr x a n:Bool) (s:Int) (k' vm' sp':Int) (al':Bool) (pg' lv' fr' mi':Int) (r' wr' x' a' n':Bool) (s':Int) (w:World) :
  (Op.equalIn 10000 121 (.agg #[.int .i64 k,.int .i64 vm,.int .i64 sp,.bool al,.int .i64 pg,.int .i64 lv,.int .i64 fr,.int .i64 mi,.bool r,.bool wr,.bool x,.bool a,.bool n,.int .i64 s]) (.agg #[.int .i64 k',.int .i64 vm',.int .i64 sp',.bool al',.int .i64 pg',.int .i64 lv',.int .i64 fr',.int .i64 mi',.bool r',.bool wr',.bool x',.bool a',.bool n',.int .i64 s'])).run Tryz.prog w=.ok (eqE ⟨k,vm,sp,al,pg,lv,fr,mi,⟨r,wr,x,a,n,s⟩⟩ ⟨k',vm',sp',al',pg',lv',fr',mi',⟨r',wr',x',a',n',s'⟩⟩) w:=by
 rw [run_equalIn_agg w 9999 _ _ _ (by kernel_rfl) (by kernel_rfl)]
 simp only [Program.fieldsOf,Tryz.underlying121]
 simp [go_sem,eqE]
 by_cases h0:k=k'
 rotate_left
 ·simp [h0]
 by_cases h1:vm=vm'
 rotate_left
 ·simp [h0,h1]
 by_cases h2:sp=sp'
 rotate_left
 ·simp [h0,h1,h2]
 by_cases h3:al=al'
 rotate_left
 ·simp [h0,h1,h2,h3]
 by_cases h4:pg=pg'
 rotate_left
 ·simp [h0,h1,h2,h3,h4]
 by_cases h5:lv=lv'
 rotate_left
 ·simp [h0,h1,h2,h3,h4,h5]
 by_cases h6:fr=fr'
 rotate_left
 ·simp [h0,h1,h2,h3,h4,h5,h6]
 by_cases h7:mi=mi'
 rotate_left
 ·simp [h0,h1,h2,h3,h4,h5,h6,h7]
 by_cases h8:r=r'
 rotate_left
 ·simp [h0,h1,h2,h3,h4,h5,h6,h7,h8]
 by_cases h9:wr=wr'
 rotate_left
 ·simp [h0,h1,h2,h3,h4,h5,h6,h7,h8,h9]
 by_cases h10:x=x'
 rotate_left
 ·simp [h0,h1,h2,h3,h4,h5,h6,h7,h8,h9,h10]
 by_cases h11:a=a'
 rotate_left
 ·simp [h0,h1,h2,h3,h4,h5,h6,h7,h8,h9,h10,h11]
 by_cases h12:n=n'
 rotate_left
 ·simp [h0,h1,h2,h3,h4,h5,h6,h7,h8,h9,h10,h11,h12]
 by_cases h13:s=s'
 rotate_left
 ·simp [h0,h1,h2,h3,h4,h5,h6,h7,h8,h9,h10,h11,h12,h13]
 simp [h0,h1,h2,h3,h4,h5,h6,h7,h8,h9,h10,h11,h12,h13]
@[go_sem high] theorem eql_ent (k vm sp:Int) (al:Bool) (pg lv fr mi:Int) (r wr x a n:Bool) (s:Int) (k' vm' sp':Int) (al':Bool) (pg' lv' fr' mi':Int) (r' wr' x' a' n':Bool) (s':Int) (w:World) :
  (binOp .eql 121 (.agg #[.int .i64 k,.int .i64 vm,.int .i64 sp,.bool al,.int .i64 pg,.int .i64 lv,.int .i64 fr,.int .i64 mi,.bool r,.bool wr,.bool x,.bool a,.bool n,.int .i64 s]) (.agg #[.int .i64 k',.int .i64 vm',.int .i64 sp',.bool al',.int .i64 pg',.int .i64 lv',.int .i64 fr',.int .i64 mi',.bool r',.bool wr',.bool x',.bool a',.bool n',.int .i64 s'])).run Tryz.prog w=.ok (.bool (eqE ⟨k,vm,sp,al,pg,lv,fr,mi,⟨r,wr,x,a,n,s⟩⟩ ⟨k',vm',sp',al',pg',lv',fr',mi',⟨r',wr',x',a',n',s'⟩⟩)) w:=by
 rw [run_eql_struct,eq_ent];rfl
@[go_sem high] theorem neq_ent (k vm sp:Int) (al:Bool) (pg lv fr mi:Int) (r wr x a n:Bool) (s:Int) (k' vm' sp':Int) (al':Bool) (pg' lv' fr' mi':Int) (r' wr' x' a' n':Bool) (s':Int) (w:World) :
  (binOp .neq 121 (.agg #[.int .i64 k,.int .i64 vm,.int .i64 sp,.bool al,.int .i64 pg,.int .i64 lv,.int .i64 fr,.int .i64 mi,.bool r,.bool wr,.bool x,.bool a,.bool n,.int .i64 s]) (.agg #[.int .i64 k',.int .i64 vm',.int .i64 sp',.bool al',.int .i64 pg',.int .i64 lv',.int .i64 fr',.int .i64 mi',.bool r',.bool wr',.bool x',.bool a',.bool n',.int .i64 s'])).run Tryz.prog w=.ok (.bool (!eqE ⟨k,vm,sp,al,pg,lv,fr,mi,⟨r,wr,x,a,n,s⟩⟩ ⟨k',vm',sp',al',pg',lv',fr',mi',⟨r',wr',x',a',n',s'⟩⟩)) w:=by
 rw [run_neq_struct,eq_ent];rfl
theorem eq_inv (k vm sp pg:Int) (k' vm' sp' pg':Int) (w:World) :
  (Op.equalIn 10000 132 (.agg #[.int .i64 k,.int .i64 vm,.int .i64 sp,.int .i64 pg]) (.agg #[.int .i64 k',.int .i64 vm',.int .i64 sp',.int .i64 pg'])).run Tryz.prog w=.ok (eqI ⟨k,vm,sp,pg⟩ ⟨k',vm',sp',pg'⟩) w:=by
 rw [run_equalIn_agg w 9999 _ _ _ (by kernel_rfl) (by kernel_rfl)]
 simp only [Program.fieldsOf,Tryz.underlying132]
 simp [go_sem,eqI]
 by_cases h0:k=k'
 rotate_left
 ·simp [h0]
 by_cases h1:vm=vm'
 rotate_left
 ·simp [h0,h1]
 by_cases h2:sp=sp'
 rotate_left
 ·simp [h0,h1,h2]
 by_cases h3:pg=pg'
 rotate_left
 ·simp [h0,h1,h2,h3]
 simp [h0,h1,h2,h3]
@[go_sem high] theorem eql_inv (k vm sp pg:Int) (k' vm' sp' pg':Int) (w:World) :
  (binOp .eql 132 (.agg #[.int .i64 k,.int .i64 vm,.int .i64 sp,.int .i64 pg]) (.agg #[.int .i64 k',.int .i64 vm',.int .i64 sp',.int .i64 pg'])).run Tryz.prog w=.ok (.bool (eqI ⟨k,vm,sp,pg⟩ ⟨k',vm',sp',pg'⟩)) w:=by
 rw [run_eql_struct,eq_inv];rfl
@[go_sem high] theorem neq_inv (k vm sp pg:Int) (k' vm' sp' pg':Int) (w:World) :
  (binOp .neq 132 (.agg #[.int .i64 k,.int .i64 vm,.int .i64 sp,.int .i64 pg]) (.agg #[.int .i64 k',.int .i64 vm',.int .i64 sp',.int .i64 pg'])).run Tryz.prog w=.ok (.bool (!eqI ⟨k,vm,sp,pg⟩ ⟨k',vm',sp',pg'⟩)) w:=by
 rw [run_neq_struct,eq_inv];rfl
end
section
open Go.ChangeShapes Go.WideShapes Go.ChangeAt Go.RowKit Go.Deep
end
section
open Go.ChangeShapes Go.WideShapes Go.ChangeAt Go.RowKit Go.Deep
end
section
open Go.ChangeShapes Go.WideShapes Go.ChangeAt Go.RowKit Go.Deep
end
section
open Go.ChangeShapes Go.WideShapes Go.ChangeAt Go.RowKit Go.Deep
theorem OwnI.otherN {w:World} {base:Nat} {v:Value} {L:List Int} (h:OwnI w base v L) (p:Addr) (y:Value) (hb:v.ownBlock≠some p.block):OwnI (w.setCell p y) base v L:=by
 refine ⟨h.1,?_⟩
 rcases h.2 with hn | ⟨g,cap,cur,rfl,hbg,hgg,rest⟩
 ·exact .inl hn
 ·refine .inr ⟨g,cap,cur,rfl,hbg,(Below.heap_setCell w p y g ?_).trans hgg,rest⟩
  rintro rfl
  exact hb rfl
theorem BoxAt.grown {w w':World} {b:Nat} {cs:Array Value} {t:TypeId} {row:Option Nat} (h:BoxAt w b cs t) (hg:w.grownBy w' row) (hr:row≠some b):BoxAt w' b cs t:=
 ⟨(hg.block b h.lt (fun e=>hr e.symm)).trans h.h⟩
end
section
open Go.ChangeShapes Go.WideShapes Go.ChangeAt Go.RowKit Go.Deep
def EndT (w:World) (E:List Ety) (D:List Inv) (r:Ending) (w':World):Prop:=
 ∃ f' c' g' d',r=.returned (.agg #[.slice f' E.length c',.slice g' D.length d'])∧OwnR KE w' w.heap.size (.slice f' E.length c') E∧OwnR KI w' w.heap.size (.slice g' D.length d') D∧Below w.heap.size w w'
end
section
open Go.ChangeShapes Go.WideShapes Go.ChangeAt Go.RowKit Go.Deep
end
section
open Go.ChangeShapes Go.WideShapes Go.ChangeAt Go.RowKit Go.Deep
theorem placeE_no {p:Ety→Bool} {x:Ety} {L:List Ety} {k:Int} (h:p x=false):placeE p (x :: L) k=placeE p L (k+1):=by simp [placeE,h]
theorem placeE_yes {p:Ety→Bool} {x:Ety} {L:List Ety} {k:Int} (h:p x=true):placeE p (x :: L) k=k:=by simp [placeE,h]
end
section
open Go.ChangeShapes Go.WideShapes Go.ChangeAt Go.RowKit Go.Deep
def allF (E:List Ety):List Ety→Int→Bool
 | [],_=>true
 | x :: L,k=>mayEn x&&(decide (inE E x=k)&&allF E L (k+1))
def allV:List Inv→Bool
 | []=>true
 | x :: D=>mayIn x&&allV D
def mayT (E:List Ety) (D:List Inv):Bool:=allF E E 0&&(allV D&&(decide (E.length≤8)&&decide (D.length≤8)))
end
section
open Go.ChangeShapes Go.WideShapes Go.ChangeAt Go.RowKit Go.Deep
end
section
open Go.ChangeShapes Go.WideShapes Go.ChangeAt Go.RowKit Go.Deep
theorem RowsAt.take {Q:Type} {K:RowK Q} {w:World} {f:Option Addr} {L:List Q} (h:RowsAt K w f L) (i:Nat):RowsAt K w f (L.take i):=by
 intro j q hj
 refine h j q ?_
 rw [List.getElem?_take] at hj
 split at hj
 ·exact hj
 ·cases hj
theorem RowsAt.from' {Q:Type} {K:RowK Q} {w:World} {b o:Nat} {L:List Q} (h:RowsAt K w (some ⟨b,o,none⟩) L) (i:Nat):RowsAt K w (some ⟨b,o+i * K.N,none⟩) (L.drop i):=by
 intro j q hj
 rw [List.getElem?_drop] at hj
 obtain ⟨b',o',he,hr⟩:=h (i+j) q hj
 simp only [Option.some.injEq,Addr.mk.injEq,and_true] at he
 obtain ⟨rfl,rfl⟩:=he
 refine ⟨b,o+i * K.N,rfl,?_⟩
 rw [Nat.add_assoc,← Nat.add_mul]
 exact hr
end
section
open Go.ChangeShapes Go.WideShapes Go.ChangeAt Go.RowKit Go.Deep
theorem below_setCells {B:Nat} {a:World}:∀ (vs:List Value) (b o:Nat) (w:World),Below B a w→B≤b→Below B a (w.setCells b o vs)
 | [],_,_,_,h,_=>h
 | v :: r,b,o,w,h,hb=>by
  rw [World.setCells]
  exact below_setCells r b (o+1) _ (Below.setCell h (p:=⟨b,o,none⟩) hb v) hb
theorem BoxAt.setCells {b:Nat} {cs:Array Value} {t:TypeId}:∀ (vs:List Value) (g o:Nat) {w:World},BoxAt w b cs t→b≠g→BoxAt (w.setCells g o vs) b cs t
 | [],_,_,_,h,_=>h
 | v :: r,g,o,w,h,hb=>by
  rw [World.setCells]
  exact BoxAt.setCells r g (o+1) (h.other ⟨g,o,none⟩ v hb) hb
theorem OwnR.there {Q:Type} {K:RowK Q} {w:World} {base n c:Nat} {f:Option Addr} {L:List Q} (h:OwnR K w base (.slice f n c) L) (hn:0 < n):∃ g,f=some ⟨g,0,none⟩∧base≤g∧g < w.heap.size∧w.there g 0 (n * K.N):=by
 have hnl:=h.rows.1
 rcases h.2 with ⟨he,hz⟩ | ⟨g,cap,cur,he,hbg,hgg,hc,hm,hsz,_⟩
 ·omega
 ·simp only [Value.slice.injEq] at he
  obtain ⟨rfl,hn2,rfl⟩:=he
  have hB:BoxAt w g cur K.t:=⟨hgg⟩
  refine ⟨g,rfl,hbg,hB.lt,fun j hj=>?_⟩
  rw [Nat.zero_add]
  refine ⟨?_,hB.free j⟩
  rw [hB.cell j]
  have:n * K.N≤c * K.N:=Nat.mul_le_mul_right _ (by omega)
  simp
  omega
end
end Go.Proofs.YtlgpdbgingjpbaaGreat
