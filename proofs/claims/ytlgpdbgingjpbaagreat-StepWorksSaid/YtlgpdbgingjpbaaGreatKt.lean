/- Plain walking: an operation of a region that draws its order is taken first,in short. Whether an entry may be,and the reference's answer: contracts. Whole structs stored and loaded in one step: boxes of cells behind 'setRow'. Plain walking: a region that draws its order and holds one call and new variables,by a table of what each operation leaves: all orders at once. Plain walking: what an operation does,for the tables of drawn regions;an operation that is taken first,in short. Plain walking: an element's address,for the tables of drawn regions. The reference's Sys,Get,Set,Trap,Back,Next. Rows of structs,whatever the struct: in memory,and in a block of the call's own: made,appended to,read. A row of TLBs: each one's two slices. -/
import Derived.Test.YtlgpdbgingjpbaaGreatLt
import Derived.OrdersHeld
import Derived.Deep.RegionHeld3
import Derived.Test.YtlgpdbgingjpbaaGreatDb
import Derived.Test.YtlgpdbgingjpbaaGreatSq
import Derived.Test.YtlgpdbgingjpbaaGreatGb
import Derived.Laws.Rows
import Derived.Laws.CopyOwn
import Derived.Deep.MidRow
import Derived.StillTail
import Derived.Deep.CutBlock
import Derived.Laws.AppendOwn
import Derived.Laws.AppendOwnNone
import Derived.Laws.OwnMore
import Derived.Deep.AppendLies
set_option linter.all false
namespace Go.Proofs.YtlgpdbgingjpbaaGreat
section
open Go.RowKit
section
variable {P:Program} {ops:Array Oper} {Q:Exit→Act→World→Prop} {md:Region.Mode} {S:World→Prop}
theorem pA {α:Type} (l:List α) (i:Nat) (a:α):l.toArray.setIfInBounds i a=(l.set i a).toArray:=by simp
theorem pB {α:Type} (l:List α) (a b:α):(a :: l).set 0 b=b :: l:=rfl
theorem pC {α:Type} (l:List α) (a b:α) (n:Nat):(a :: l).set (n+1) b=a :: l.set n b:=rfl
theorem tkR (i d:Nat) {o1:Op} {o2:TypeId} {o3:String} {o4:Array Edge} {o5:Option (Nat×Bool)} {v:Value} {fuel:Nat} {listed:Array Bool} {a:Act} {w:World} (hi:ops[i]?=some ⟨some d,o1,o2,o3,o4,o5⟩) (hS:S w)
  (hy:∀ w',S w'→(execOp a.eval ⟨some d,o1,o2,o3,o4,o5⟩).run P w'=.ok (.value v) w')
  (h:wpAnyH P md ops Q S fuel (listed.setIfInBounds i true) ⟨a.tmps.setIfInBounds d v,a.defers⟩ w)
  (hg:Region.wanted ⟨some d,o1,o2,o3,o4,o5⟩ (yielded ops a.tmps)=true:=by rfl) (hs:Region.noSelect ops=true:=by kernel_rfl) (hf:Region.free md ops listed i=true:=by kernel_rfl) (hr:(Region.ready md ops listed).contains i=true:=by kernel_rfl)
  (hQ:∀ c a w,Q (.panic c) (a.put (some d) v) w→Q (.panic c) a w:=by exact fun _ _ _ h=>h):wpAnyH P md ops Q S (fuel+1) listed a w:=
 wpAnyH_take (oi:=⟨some d,o1,o2,o3,o4,o5⟩) hi hs hf hr hQ (.inl ⟨hg,hy⟩) hS h
theorem tkU (i d:Nat) {o1:Op} {o2:TypeId} {o3:String} {o4:Array Edge} {o5:Option (Nat×Bool)} {fuel:Nat} {listed:Array Bool} {a:Act} {w:World} (hi:ops[i]?=some ⟨some d,o1,o2,o3,o4,o5⟩) (hS:S w)
  (h:wpAnyH P md ops Q S fuel (listed.setIfInBounds i true) ⟨a.tmps.setIfInBounds d undef,a.defers⟩ w)
  (hg:Region.wanted ⟨some d,o1,o2,o3,o4,o5⟩ (yielded ops a.tmps)=false:=by rfl) (hs:Region.noSelect ops=true:=by kernel_rfl) (hf:Region.free md ops listed i=true:=by kernel_rfl) (hr:(Region.ready md ops listed).contains i=true:=by kernel_rfl)
  (hQ:∀ c a w,Q (.panic c) (a.put (some d) undef) w→Q (.panic c) a w:=by exact fun _ _ _ h=>h):wpAnyH P md ops Q S (fuel+1) listed a w:=
 wpAnyH_take (oi:=⟨some d,o1,o2,o3,o4,o5⟩) hi hs hf hr hQ (.inr ⟨hg,rfl⟩) hS h
end
end
section
open Go.ChangeShapes Go.WideShapes Go.ChangeAt Go.RowKit Go.Deep
theorem emayBe_any (st lv:Int) (k f:Int) (r wr x a n:Bool) (s o:Int) (w:World) :
  Calls Tryz.prog 326 #[.agg #[.int .i64 st,.int .i64 lv,.int .i64 k,.int .i64 f,.bool r,.bool wr,.bool x,.bool a,.bool n,.int .i64 s,.int .i64 o]] w fun e w'=>e=.returned (.bool (mayE st lv (Dsc.mk k f r wr x a n s o)))∧Below w.heap.size w w':=by
 have hm:mayE st lv (Dsc.mk k f r wr x a n s o)=(placeB st lv&&mayD st lv (Dsc.mk k f r wr x a n s o)):=rfl
 have HM:=Lib.hid hm
 have HS:=Lib.hid (fun W=>spot_mayBe st lv W)
 clear hm
 cases hp:placeB st lv
 ·rw [hp] at HS HM
  clear hp
  go_enter Tryz.func326,Tryz.ntmps326
  go_wp2_with (go_at_call 324;refine (HS.out _).mono ?_;rintro e w' ⟨rfl,rfl⟩)
  go_ret
  rw [HM.out]
  exact ⟨rfl,by go_grown⟩
 ·obtain ⟨_,hl0,hl3⟩:=placeB_iff.1 hp
  rw [hp,Bool.true_and] at HM
  rw [hp] at HS
  clear hp
  by_cases k0:k=0
  ·subst k0
   have HN:=Lib.hid (fun W=>none_any st lv 0 f r wr x a n s o W rfl)
   have he:mayD st lv (Dsc.mk 0 f r wr x a n s o)=noneD st (Dsc.mk 0 f r wr x a n s o):=rfl
   rw [he] at HM
   clear he
   go_enter Tryz.func326,Tryz.ntmps326
   go_wp2_with (first | (go_at_call 324;refine (HS.out _).mono ?_;rintro e w' ⟨rfl,rfl⟩) | (go_at_call 335;refine (HN.out _).mono ?_;rintro e w' ⟨rfl,hb1⟩))
   go_ret
   rw [HM.out]
   exact ⟨rfl,bel_trans (by go_grown) hb1⟩
  ·have t0:(k==0)=false:=by simpa using k0
   by_cases k1:k=1
   ·subst k1
    have HN:=Lib.hid (fun W=>table_any st lv 1 f r wr x a n s o W rfl)
    have he:mayD st lv (Dsc.mk 1 f r wr x a n s o)=tableD lv (Dsc.mk 1 f r wr x a n s o):=rfl
    rw [he] at HM
    clear he
    go_enter Tryz.func326,Tryz.ntmps326
    go_wp2_with (first | (go_at_call 324;refine (HS.out _).mono ?_;rintro e w' ⟨rfl,rfl⟩) | (go_at_call 336;refine (HN.out _).mono ?_;rintro e w' ⟨rfl,hb1⟩))
    go_ret
    rw [HM.out]
    exact ⟨rfl,bel_trans (by go_grown) hb1⟩
   ·have t1:(k==1)=false:=by simpa using k1
    by_cases k2:k=2
    ·subst k2
     have HN:=Lib.hid (fun W=>leaf_any st lv 2 f r wr x a n s o W hl0 hl3)
     have he:mayD st lv (Dsc.mk 2 f r wr x a n s o)=leafD st lv (Dsc.mk 2 f r wr x a n s o):=rfl
     rw [he] at HM
     clear he
     go_enter Tryz.func326,Tryz.ntmps326
     go_wp2_with (first | (go_at_call 324;refine (HS.out _).mono ?_;rintro e w' ⟨rfl,rfl⟩) | (go_at_call 337;refine (HN.out _).mono ?_;rintro e w' ⟨rfl,hb1⟩))
     go_ret
     rw [HM.out]
     exact ⟨rfl,bel_trans (by go_grown) hb1⟩
    ·have t2:(k==2)=false:=by simpa using k2
     have he:mayD st lv (Dsc.mk k f r wr x a n s o)=false:=by simp [mayD,k0,k1,k2]
     rw [he] at HM
     clear he k0 k1 k2
     go_enter Tryz.func326,Tryz.ntmps326
     go_wp2_with (go_at_call 324;refine (HS.out _).mono ?_;rintro e w' ⟨rfl,rfl⟩)
     go_ret
     rw [HM.out]
     exact ⟨rfl,by go_grown⟩
end
section
open Go.ChangeShapes Go.WideShapes Go.ChangeAt Go.RowKit Go.Deep
theorem BoxAt.put {w:World} {b:Nat} {cs cs':Array Value} {t:TypeId} (h:BoxAt w b cs t):BoxAt (w.setRow b cs') b cs' t:=⟨setRow_heap w b cs cs' t (0,0) h.h⟩
theorem BoxAt.row {w:World} {b g:Nat} {cs cs':Array Value} {t:TypeId} (h:BoxAt w b cs t) (hne:b≠g):BoxAt (w.setRow g cs') b cs t:=⟨(setRow_other w g b cs' hne).trans h.h⟩
theorem OwnI.row {w:World} {base g:Nat} {v:Value} {L:List Int} {cs:Array Value} (h:OwnI w base v L) (hb:g < base):OwnI (w.setRow g cs) base v L:=by
 refine ⟨h.1,?_⟩
 rcases h.2 with hn | ⟨g',cap,cur,rfl,hbg,hgg,rest⟩
 ·exact .inl hn
 ·exact .inr ⟨g',cap,cur,rfl,hbg,(setRow_other w g g' cs (by omega)).trans hgg,rest⟩
theorem OwnI.under {B:Nat} {w w':World} {base:Nat} {v:Value} {L:List Int} (h:OwnI w base v L) (hb:Below B w w') (hlt:∀ k,v.ownBlock=some k→k < B):OwnI w' base v L:=by
 refine ⟨h.1,?_⟩
 rcases h.2 with hn | ⟨g',cap,cur,rfl,hbg,hgg,rest⟩
 ·exact .inl hn
 ·exact .inr ⟨g',cap,cur,rfl,hbg,(hb.block g' (hlt g' rfl)).trans hgg,rest⟩
theorem OwnI.blt {w:World} {base:Nat} {v:Value} {L:List Int} (h:OwnI w base v L):∀ k,v.ownBlock=some k→k < w.heap.size:=fun k hk=>(World.ownsRow.lt h k hk).2
end
section
open Go.ChangeShapes Go.WideShapes Go.ChangeAt Go.RowKit Go.Deep
inductive Knd (X:Type) where
 | con (v:Value)
 | ld (v:Value)
 | res (f:X→Value)
 | new (t:TypeId) (z:Array Value)
 | sto (j:Nat) (cs:X→Array Value)
 | cal (V:X→Value)
structure Ent (X:Type) where
 d:Option Nat
 k:Knd X
section
variable {P:Program} {ops:Array Oper} {Q:Exit→Act→World→Prop} {X:Type}
def Knd.val (i:Nat) (x:X) (β:Nat→Nat):Knd X→Value
 | .con v=>v
 | .ld v=>v
 | .res f=>f x
 | .new _ _=>.pointer (some ⟨β i,0,none⟩)
 | .sto _ _=>undef
 | .cal V=>V x
def rgOp (ops:Array Oper) (i:Nat):Oper:=ops.getD i ⟨none,.move (.const undef),0,"",#[],none⟩
def Knd.obl (P:Program) (ops:Array Oper) (I0:World→Prop) (A:X→(Nat→Nat)→Act) (U:List (Ent X)) (i:Nat):Knd X→Prop
 | .con v=>∀ x β w,(execOp (A x β).eval (rgOp ops i)).run P w=.ok (.value v) w
 | .ld v=>∀ x β w,I0 w→(execOp (A x β).eval (rgOp ops i)).run P w=.ok (.value v) w
 | .res f=>∀ x β w,(execOp (A x β).eval (rgOp ops i)).run P w=.ok (.value (f x)) w
 | .new t z=>∀ x β w,(execOp (A x β).eval (rgOp ops i)).run P w=.ok (.value (.pointer (some ⟨w.heap.size,0,none⟩))) (w.alloc (.cells z t))
 | .sto j cs=>∃ t z d,U[j]?=some ⟨d,.new t z⟩∧∀ x β w,BoxAt w (β j) z t→(execOp (A x β).eval (rgOp ops i)).run P w=.ok .skip (w.setRow (β j) (cs x))
 | .cal _=>True
structure NewOk (U:List (Ent X)) (lo:Nat) (D:Nat→Bool) (x:X) (β:Nat→Nat) (w:World):Prop where
 box:∀ i t z d,U[i]?=some ⟨d,.new t z⟩→D i=true→lo≤β i∧((∃ k cs d',U[k]?=some ⟨d',.sto i cs⟩∧D k=true∧BoxAt w (β i) (cs x) t)∨((∀ k cs d',U[k]?=some ⟨d',.sto i cs⟩→D k=false)∧BoxAt w (β i) z t))
 ne:∀ i j t z d t' z' d',U[i]?=some ⟨d,.new t z⟩→U[j]?=some ⟨d',.new t' z'⟩→D i=true→D j=true→i≠j→β i≠β j
theorem NewOk.lt {U:List (Ent X)} {lo:Nat} {D:Nat→Bool} {x:X} {β:Nat→Nat} {w:World} (h:NewOk U lo D x β w) {i:Nat} {t:TypeId} {z:Array Value} {d:Option Nat} (hi:U[i]?=some ⟨d,.new t z⟩) (hD:D i=true):β i < w.heap.size:=by
 rcases (h.box i t z d hi hD).2 with ⟨k,cs,d',_,_,hb⟩ | ⟨_,hb⟩<;>exact hb.lt
theorem NewOk.same {U:List (Ent X)} {lo:Nat} {D D':Nat→Bool} {x:X} {β:Nat→Nat} {w:World} (h:NewOk U lo D x β w) (hD:∀ k,(∃ t z d,U[k]?=some ⟨d,.new t z⟩)∨(∃ j cs d,U[k]?=some ⟨d,.sto j cs⟩)→D' k=D k):NewOk U lo D' x β w:=by
 refine ⟨fun i t z d hi hd=>?_,fun i j t z d t' z' d' hi hj h1 h2 hne=>?_⟩
 ·rw [hD i (.inl ⟨t,z,d,hi⟩)] at hd
  refine ⟨(h.box i t z d hi hd).1,(h.box i t z d hi hd).2.imp ?_ ?_⟩
  ·rintro ⟨k,cs,d',hk,hk2,hb⟩
   exact ⟨k,cs,d',hk,(hD k (.inr ⟨i,cs,d',hk⟩)).trans hk2,hb⟩
  ·rintro ⟨hk,hb⟩
   exact ⟨fun k cs d' hk'=>(hD k (.inr ⟨i,cs,d',hk'⟩)).trans (hk k cs d' hk'),hb⟩
 ·rw [hD i (.inl ⟨t,z,d,hi⟩)] at h1
  rw [hD j (.inl ⟨t',z',d',hj⟩)] at h2
  exact h.ne i j t z d t' z' d' hi hj h1 h2 hne
end
end
section
open Go.ChangeShapes Go.WideShapes Go.ChangeAt Go.RowKit Go.Deep
section
variable {P:Program} {ρ:Operand→Value} {o:Oper} {w:World}
theorem run_ldN (ty:TypeId) (x:Operand) (b off:Nat) {cs:Array Value} {d:TypeDesc} (h1:o.op=.load ty x) (h2:ρ x=.pointer (some ⟨b,off,none⟩)) (hu:P.underlying ty=some d)
  (hd:(match d with | .struct _ | .array _ _=>true | _=>false)=true) (hi:(P.info? ty).map (·.size)=some cs.size) (hc:∀ j v,cs[j]?=some v→w.cell? ⟨b,off+j,none⟩=some v):(execOp ρ o).run P w=.ok (.value (.agg cs)) w:=by
 have hl:(loadCells ⟨b,off,none⟩ cs.toList.length).run P w=.ok cs.toList.toArray w:=
  run_loadCells_list (P:=P) w ⟨b,off,none⟩ cs.toList (fun j v hv=>by
   rw [add_none]
   exact hc j v (by simpa using hv))
 cases hq:P.info? ty with
 | none=>simp [hq] at hi
 | some i=>
  have hs:i.size=cs.size:=by simpa [hq] using hi
  have hagg:(isAgg ty).run P w=.ok true w:=by
   unfold isAgg
   rw [Sem.run_bind,run_underlying hu w]
   cases d<;>simp_all
  simp only [Array.length_toList,Array.toArray_toList] at hl
  unfold execOp
  simp only [h1,h2,Instr.loadAt,Instr.sureAddr,Sem.run_bind,Sem.run_pure,Result.andThen_ok]
  simp [loadVar,Sem.run_bind,hagg,sizeOf,typeInfo,hq,hs,hl]
end
section
variable {P:Program} {ops:Array Oper} {X:Type}
def AllObl (P:Program) (ops:Array Oper) (I0:World→Prop) (A:X→(Nat→Nat)→Act) (U:List (Ent X)):Nat→List (Ent X)→Prop
 | _,[]=>True
 | i,e :: V=>e.k.obl P ops I0 A U i∧AllObl P ops I0 A U (i+1) V
theorem AllObl.get {I0:World→Prop} {A:X→(Nat→Nat)→Act} {U:List (Ent X)}:∀ {V:List (Ent X)} {i:Nat},AllObl P ops I0 A U i V→∀ (k:Nat) (e:Ent X),V[k]?=some e→e.k.obl P ops I0 A U (i+k)
 | [],_,_,_,_,h=>by simp at h
 | e :: V,i,h,0,e',he=>by
  obtain rfl:e=e':=by simpa using he
  exact h.1
 | e :: V,i,h,k+1,e',he=>by
  have:=h.2.get k e' (by simpa using he)
  rwa [show i+1+k=i+(k+1) by omega] at this
theorem AllObl.all {I0:World→Prop} {A:X→(Nat→Nat)→Act} {U:List (Ent X)} (h:AllObl P ops I0 A U 0 U):∀ (i:Nat) (e:Ent X),U[i]?=some e→e.k.obl P ops I0 A U i:=fun i e he=>by
 have:=h.get i e he
 rwa [Nat.zero_add] at this
end
section
variable {X:Type}
theorem BoxAt.sub {w:World} {b:Nat} {cs:Array Value} {t:TypeId} (h:BoxAt w b cs t) (off:Nat) (ds:Array Value) (hs:(cs.extract off (off+ds.size)).toList=ds.toList):∀ j v,ds[j]?=some v→w.cell? ⟨b,off+j,none⟩=some v:=by
 intro j v hj
 refine h.get (off+j) v ?_
 rw [← Array.getElem?_toList,← hs,Array.getElem?_toList,Array.getElem?_extract] at hj
 split at hj
 ·exact hj
 ·cases hj
end
end
section
open Go.ChangeShapes Go.WideShapes Go.ChangeAt Go.RowKit Go.Deep
theorem RowAt.sub {w:World} {b o N:Nat} {cs:Array Value} (h:RowAt w b o N cs) (off:Nat) (ds:Array Value) (hs:(cs.extract off (off+ds.size)).toList=ds.toList) (hN:off+ds.size≤N):∀ j v,ds[j]?=some v→w.cell? ⟨b,o+off+j,none⟩=some v:=by
 intro j v hj
 have hlt:j < ds.size:=(Array.getElem?_eq_some_iff.1 hj).1
 rw [Nat.add_assoc]
 refine h.get (off+j) v (by omega) ?_
 rw [← Array.getElem?_toList,← hs,Array.getElem?_toList,Array.getElem?_extract] at hj
 split at hj
 ·exact hj
 ·cases hj
end
section
open Go.ChangeShapes Go.WideShapes Go.ChangeAt Go.RowKit Go.Deep
def trapR (r:Rg) (e f:BitVec 64):Rg:={ r with el:=r.pc,es:=e,fa:=f,pc:=r.vb }
def farP (p:BitVec 64) (L:Nat→Int):Nat→BitVec 64
 | 0=>p+4#64
 | k+1=>farP p L k+4#64 * BitVec.ofInt 64 (L k)
def nextR (r:Rg) (L:Nat→Int) (n:Nat):Rg:={ r with pc:=farP r.pc L n }
end
section
open Go.ChangeShapes Go.WideShapes Go.ChangeAt Go.RowKit Go.Deep
structure RowK (Q:Type) where
 ts:TypeId
 t:TypeId
 N:Nat
 B:Nat
 z:Value
 V:Q→Array Value
 pos:0 < N
 small:B≤1000
 size:∀ q,(V q).size=N
 one:∀ q,∀ v∈(V q).toList,v.oneCell'=true
 under:Tryz.prog.underlying ts=some (.slice t)
 info:(Tryz.prog.info? t).map (fun i=>(i.zero,i.size,i.bytes))=some (some z,N,B)
 zs:z.cells.size=N
section
variable {Q:Type} (K:RowK Q)
def rcells:List Q→List Value
 | []=>[]
 | x :: L=>(K.V x).toList++rcells L
theorem rcells_append (L M:List Q):rcells K (L++M)=rcells K L++rcells K M:=by
 induction L with
 | nil=>rfl
 | cons x L ih=>simp only [List.cons_append,rcells,ih,List.append_assoc]
theorem rcells_length (L:List Q):(rcells K L).length=L.length * K.N:=by
 induction L with
 | nil=>simp [rcells]
 | cons x L ih=>simp only [rcells,List.length_append,Array.length_toList,K.size,List.length_cons,ih,Nat.add_mul];omega
theorem rcells_one (L:List Q):∀ v∈rcells K L,v.oneCell'=true:=by
 induction L with
 | nil=>intro v hv;cases hv
 | cons x L ih=>
  intro v hv
  rcases List.mem_append.1 hv with hv | hv
  ·exact K.one x v hv
  ·exact ih v hv
theorem rcells_get (L:List Q) (j:Nat) (q:Q) (hj:L[j]?=some q) (i:Nat) (hi:i < K.N):(rcells K L)[j * K.N+i]?=(K.V q)[i]?:=by
 induction L generalizing j with
 | nil=>cases hj
 | cons x L ih=>
  cases j with
  | zero=>
   simp only [List.getElem?_cons_zero,Option.some.injEq] at hj
   subst hj
   rw [Nat.zero_mul,Nat.zero_add]
   show ((K.V x).toList++_)[i]?=_
   rw [List.getElem?_append_left (by rw [Array.length_toList,K.size];exact hi),Array.getElem?_toList]
  | succ j=>
   have h2:=ih j (by simpa using hj)
   show ((K.V x).toList++_)[(j+1) * K.N+i]?=_
   rw [List.getElem?_append_right (by rw [Array.length_toList,K.size,Nat.add_mul];omega),Array.length_toList,K.size,← h2]
   congr 1
   rw [Nat.add_mul]
   omega
def RowsAt (w:World) (f:Option Addr) (L:List Q):Prop:=∀ (j:Nat) (q:Q),L[j]?=some q→∃ b o,f=some ⟨b,o,none⟩∧RowAt w b (o+j * K.N) K.N (K.V q)
def OwnR (w:World) (base:Nat) (v:Value) (L:List Q):Prop:=w.ownsRow base K.t K.N v L.length (rcells K L)
end
theorem RowAt.alloc {W:World} {b o N:Nat} {cs:Array Value} (h:RowAt W b o N cs) (x:Obj):RowAt (W.alloc x) b o N cs:=h.below (bel_alloc (Below.refl _ _) x)
theorem RowAt.drew {W:World} {b o N:Nat} {cs:Array Value} (h:RowAt W b o N cs):RowAt W.drew b o N cs:=h.below (Below.drew (Below.refl _ _))
theorem RowAt.row {W:World} {b o N g:Nat} {cs ds:Array Value} (h:RowAt W b o N cs) (hne:b≠g):RowAt (W.setRow g ds) b o N cs:=
 ⟨by have:=setRow_other W g b ds hne;have h1:=h.lt;rw [Array.getElem?_eq_getElem h1] at this;exact (Array.getElem?_eq_some_iff.1 this).1,fun j hj=>(cell_setRow_other W g ds ⟨b,o+j,none⟩ hne).trans (h.c j hj)⟩
theorem RowAt.other {W:World} {b o N:Nat} {cs:Array Value} (h:RowAt W b o N cs) (p:Addr) (v:Value) (hne:b≠p.block):RowAt (W.setCell p v) b o N cs:=by
 have h0:=Below.heap_setCell W p v b hne
 refine ⟨by have h1:=h.lt;rw [Array.getElem?_eq_getElem h1] at h0;exact (Array.getElem?_eq_some_iff.1 h0).1,fun j hj=>(World.cell?_of_block (a:=⟨b,o+j,none⟩) h0).trans (h.c j hj)⟩
theorem RowAt.under {B:Nat} {W w:World} {b o N:Nat} {cs:Array Value} (h:RowAt W b o N cs) (hb:Below B W w) (hB:b < B):RowAt w b o N cs:=
 ⟨Nat.lt_of_lt_of_le h.lt hb.size,fun j hj=>(World.cell?_of_block (a:=⟨b,o+j,none⟩) (hb.block b hB)).trans (h.c j hj)⟩
section
variable {Q:Type} {K:RowK Q}
theorem RowsAt.below {W w:World} {f:Option Addr} {L:List Q} (h:RowsAt K W f L) (hb:Below W.heap.size W w):RowsAt K w f L:=by
 intro j q hj
 obtain ⟨b,o,hf,hr⟩:=h j q hj
 exact ⟨b,o,hf,hr.below hb⟩
theorem RowsAt.nil (w:World) (f:Option Addr):RowsAt K w f []:=fun j q hj=>by simp at hj
theorem OwnR.nil (w:World) (base:Nat):OwnR K w base (.slice none 0 0) []:=World.ownsRow_nil w base K.t K.N
theorem OwnR.below {w w':World} {base:Nat} {v:Value} {L:List Q} (h:OwnR K w base v L) (hb:Below w.heap.size w w'):OwnR K w' base v L:=by
 refine ⟨h.1,?_⟩
 rcases h.2 with hn | ⟨g,cap,cur,rfl,hbg,hgg,rest⟩
 ·exact .inl hn
 ·exact .inr ⟨g,cap,cur,rfl,hbg,(hb.block g (Array.getElem?_eq_some_iff.1 hgg).1).trans hgg,rest⟩
theorem OwnR.under {B:Nat} {w w':World} {base:Nat} {v:Value} {L:List Q} (h:OwnR K w base v L) (hb:Below B w w') (hlt:∀ k,v.ownBlock=some k→k < B):OwnR K w' base v L:=by
 refine ⟨h.1,?_⟩
 rcases h.2 with hn | ⟨g,cap,cur,rfl,hbg,hgg,rest⟩
 ·exact .inl hn
 ·exact .inr ⟨g,cap,cur,rfl,hbg,(hb.block g (hlt g rfl)).trans hgg,rest⟩
theorem OwnR.mono {w:World} {base base':Nat} {v:Value} {L:List Q} (h:OwnR K w base v L) (hb:base'≤base):OwnR K w base' v L:=by
 refine ⟨h.1,?_⟩
 rcases h.2 with hn | ⟨g,cap,cur,rfl,hbg,rest⟩
 ·exact .inl hn
 ·exact .inr ⟨g,cap,cur,rfl,by omega,rest⟩
theorem OwnR.blk {w:World} {base:Nat} {v:Value} {L:List Q} (h:OwnR K w base v L):∀ k,v.ownBlock=some k→base≤k:=fun k hk=>(World.ownsRow.lt h k hk).1
theorem OwnR.blt {w:World} {base:Nat} {v:Value} {L:List Q} (h:OwnR K w base v L):∀ k,v.ownBlock=some k→k < w.heap.size:=fun k hk=>(World.ownsRow.lt h k hk).2
theorem OwnR.otherN {w:World} {base:Nat} {v:Value} {L:List Q} (h:OwnR K w base v L) (p:Addr) (y:Value) (hb:v.ownBlock≠some p.block):OwnR K (w.setCell p y) base v L:=by
 refine ⟨h.1,?_⟩
 rcases h.2 with hn | ⟨g,cap,cur,rfl,hbg,hgg,rest⟩
 ·exact .inl hn
 ·refine .inr ⟨g,cap,cur,rfl,hbg,(Below.heap_setCell w p y g ?_).trans hgg,rest⟩
  rintro rfl
  exact hb rfl
theorem OwnR.other {w:World} {base:Nat} {v:Value} {L:List Q} (h:OwnR K w base v L) (p:Addr) (y:Value) (hb:p.block < base):OwnR K (w.setCell p y) base v L:=
 h.otherN p y (fun he=>by have:=h.blk _ he;omega)
theorem OwnR.drew {w:World} {base:Nat} {v:Value} {L:List Q} (h:OwnR K w base v L):OwnR K w.drew base v L:=h.below (Below.drew (Below.refl _ _))
theorem OwnR.alloc {w:World} {base:Nat} {v:Value} {L:List Q} (h:OwnR K w base v L) (o:Obj):OwnR K (w.alloc o) base v L:=h.below (bel_alloc (Below.refl _ _) o)
theorem OwnR.form {w:World} {base:Nat} {v:Value} {L:List Q} (h:OwnR K w base v L):∃ f c,v=.slice f L.length c∧RowsAt K w f L∧(f=none→c=0):=by
 rcases h.2 with ⟨rfl,hz⟩ | ⟨g,cap,cur,rfl,hbg,hgg,hrest⟩
 ·have hl:L.length=0:=hz
  have hL:L=[]:=List.eq_nil_of_length_eq_zero hl
  subst hL
  exact ⟨none,0,rfl,RowsAt.nil _ _,fun _=>rfl⟩
 ·refine ⟨_,cap,rfl,fun j q hj=>⟨g,0,rfl,(Array.getElem?_eq_some_iff.1 hgg).1,fun i hi=>?_⟩,by simp⟩
  have hjl:j < L.length:=(List.getElem?_eq_some_iff.1 hj).1
  have hlt:j * K.N+i < L.length * K.N:=by
   have:(j+1) * K.N≤L.length * K.N:=Nat.mul_le_mul_right _ hjl
   rw [Nat.add_mul] at this
   omega
  have:=World.ownsRow.cellAt h (j * K.N+i) hlt
  rw [rcells_get K L j q hj i hi] at this
  rw [Nat.zero_add]
  exact this
theorem OwnR.rows {w:World} {base:Nat} {f:Option Addr} {n c:Nat} {L:List Q} (h:OwnR K w base (.slice f n c) L):n=L.length∧RowsAt K w f L:=by
 obtain ⟨f',c',hv,hw,_⟩:=h.form
 simp at hv
 obtain ⟨rfl,rfl,rfl⟩:=hv
 exact ⟨rfl,hw⟩
theorem OwnR.made (w:World) (base:Nat) (L:List Q) (cs:Array Value) (n:Nat) (hb:base≤w.heap.size) (hn:n=L.length) (hl:L.length≤1000000) (hc:cs.toList=rcells K L):OwnR K (w.alloc (.cells cs K.t)) base (.slice (some ⟨w.heap.size,0,none⟩) n n) L:=by
 subst hn
 have h1:cs.size=L.length * K.N:=by rw [← Array.length_toList,hc,rcells_length]
 refine ⟨rcells_length K L,.inr ⟨w.heap.size,L.length,cs,rfl,hb,heap_alloc_new w _,Nat.le_refl _,by unfold maxLen;omega,h1,?_⟩⟩
 rw [hc,List.take_of_length_le (by rw [rcells_length];omega)]
theorem step_rowR {w:World} {ops:Array Oper} {o:Oper} {a:Act} {KK:Act→World→Prop} {QQ:Exit→Act→World→Prop} {E:Prop} (hgd:o.guard=none) (s x:Operand)
  (ho:o.op=.call { callee:=.builtin .append,args:=#[s,x],argTypes:=#[K.ts,K.ts] })
  (base:Nat) (v:Value) (L M:List Q) (hs:a.eval s=v) (hown:OwnR K w base v L)
  (f:Option Addr) (m c:Nat) (hx:a.eval x=.slice f m c) (hm:m=M.length) (hM:RowsAt K w f M) (hf:f=none→c=0) (hk:L.length+M.length≤100000) (hbase:base≤w.heap.size)
  (h:∀ f' c' w',OwnR K w' base (.slice f' (L.length+M.length) c') (L++M)→w.grownBy w' v.ownBlock→(f'=none→c'=0)→KK (a.put o.dst (.slice f' (L.length+M.length) c')) w'):if Region.wanted o (yielded ops a.tmps)=true then Oper.wp Tryz.prog o a w KK QQ else E:=by
 have hw:Region.wanted o (yielded ops a.tmps)=true:=by simp [Region.wanted,hgd]
 rw [if_pos hw]
 subst hm
 obtain ⟨i0,hi,hz0,hz1,hz2⟩:=info_parts K.info
 have hsm:=K.small
 cases f with
 | none=>
  have hM0:M=[]:=by
   cases M with
   | nil=>rfl
   | cons y M=>obtain ⟨b,o,hb,_⟩:=hM 0 y rfl;cases hb
  subst hM0
  have hc:c=0:=hf rfl
  subst hc
  have hrun:=run_append_owned_none (P:=Tryz.prog) (w:=w) base K.ts o.type K.t i0 K.N K.under hi v L.length (rcells K L) hown
  obtain ⟨f',c',hv',hr',hn'⟩:=hown.form
  have h2:=h f' c' w (by rw [List.append_nil];have:=hown;rw [hv'] at this;exact this) ⟨rfl,rfl,rfl,Nat.le_refl _,fun _ _ _=>rfl⟩ hn'
  unfold Oper.wp
  simp [execOp,ho,resolve,invoke,builtin,hs,hx,hrun,Result.andThen]
  rw [hv']
  exact h2
 | some ad=>
  refine wp_append_own _ s x K.ts ho base K.t i0 K.z K.N K.B K.under hi hz0 hz1 hz2 K.zs K.pos _ L.length (rcells K L) hs hown ad M.length c (rcells K M) hx (rcells_length K M) ?_ (rcells_one K M)
   (by unfold maxLen;omega) ?_ hbase ?_
  ·intro t v hv
   have ht:t < M.length * K.N:=by
    have:=(List.getElem?_eq_some_iff.1 hv).1
    rwa [rcells_length] at this
   have hj:t / K.N < M.length:=(Nat.div_lt_iff_lt_mul K.pos).2 ht
   have hi:t % K.N < K.N:=Nat.mod_lt _ K.pos
   have hq:M[t / K.N]?=some (M[t / K.N]'hj):=List.getElem?_eq_getElem hj
   obtain ⟨b,o,hbo,hr⟩:=hM _ _ hq
   simp only [Option.some.injEq] at hbo
   subst hbo
   have h3:=rcells_get K M (t / K.N) _ hq (t % K.N) hi
   have e:t / K.N * K.N+t % K.N=t:=by rw [Nat.mul_comm];exact Nat.div_add_mod t K.N
   rw [e] at h3
   have h4:=hr.c (t % K.N) hi
   rw [Nat.add_assoc,e] at h4
   rw [add_none,h4,← h3]
   exact hv
  ·have:=Nat.mul_le_mul hk hsm
   omega
  ·intro v' w' hown' hgrow _
   have hO:OwnR K w' base v' (L++M):=by
    unfold OwnR
    rw [rcells_append,List.length_append]
    exact hown'
   obtain ⟨f',c',rfl,_,hn⟩:=hO.form
   have e1:(L++M).length=L.length+M.length:=by simp
   rw [e1] at hO ⊢
   exact h f' c' w' hO hgrow hn
theorem wpList_rowR {w:World} {ops:Array Oper} {rest:List Oper} {o:Oper} {a:Act} {QQ:Exit→Act→World→Prop} (hgd:o.guard=none) (s x:Operand)
  (ho:o.op=.call { callee:=.builtin .append,args:=#[s,x],argTypes:=#[K.ts,K.ts] })
  (base:Nat) (v:Value) (L M:List Q) (hs:a.eval s=v) (hown:OwnR K w base v L)
  (f:Option Addr) (m c:Nat) (hx:a.eval x=.slice f m c) (hm:m=M.length) (hM:RowsAt K w f M) (hf:f=none→c=0) (hk:L.length+M.length≤100000) (hbase:base≤w.heap.size)
  (h:∀ f' c' w',OwnR K w' base (.slice f' (L.length+M.length) c') (L++M)→w.grownBy w' v.ownBlock→(f'=none→c'=0)→wpList Tryz.prog ops QQ rest (a.put o.dst (.slice f' (L.length+M.length) c')) w'):wpList Tryz.prog ops QQ (o :: rest) a w:=
 wpList_plain hgd fun _ hK=>by
  have hw:Region.wanted o (yielded ops a.tmps)=true:=by simp [Region.wanted,hgd]
  have:=step_rowR (ops:=ops) (E:=False) (QQ:=QQ) hgd s x ho base v L M hs hown f m c hx hm hM hf hk hbase (fun f' c' w' h1 h2 h3=>hK _ _ (h f' c' w' h1 h2 h3))
  rwa [if_pos hw] at this
end
section
variable {H:Type} {enc:TypeId×Value→H} {w:World} {base:Nat} {held:Bool}
end
end
section
open Go.ChangeShapes Go.WideShapes Go.ChangeAt Go.RowKit Go.Deep
structure Tlh where
 f:Option Addr
 l:Nat
 c:Nat
 g:Option Addr
 m:Nat
 d:Nat
def tlhC (t:Tlh):Array Value:=#[.slice t.f t.l t.c,.slice t.g t.m t.d]
def tlh0:Tlh:=⟨none,0,0,none,0,0⟩
def KT:RowK Tlh where
 ts:=31
 t:=77
 N:=2
 B:=48
 z:=.agg (tlhC tlh0)
 V:=tlhC
 pos:=by decide
 small:=by decide
 size:=fun _=>rfl
 one:=fun q v hv=>by
  simp only [tlhC,List.mem_cons,List.not_mem_nil,or_false] at hv
  rcases hv with rfl | rfl<;>rfl
 under:=Tryz.underlying31
 info:=by kernel_rfl
 zs:=rfl
end
end Go.Proofs.YtlgpdbgingjpbaaGreat
