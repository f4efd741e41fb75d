/- Plain walking: an operation of a region that draws its order is taken first,in short. Whether an entry may be,and the reference's answer: contracts. Whole structs stored and loaded in one step: boxes of cells behind 'setRow'. Plain walking: a region that draws its order and holds one call and new variables,by a table of what each operation leaves: all orders at once. Plain walking: what an operation does,for the tables of drawn regions;an operation that is taken first,in short. Plain walking: an element's address,for the tables of drawn regions. The reference's Sys,Get,Set,Trap,Back,Next. -/
import Derived.Test.YtlgpdbgingjpbaaGreatWd
import Derived.OrdersHeld
import Derived.Deep.RegionHeld3
import Derived.Test.YtlgpdbgingjpbaaGreatDb
import Derived.Test.YtlgpdbgingjpbaaGreatEo
import Derived.Test.YtlgpdbgingjpbaaGreatGb
import Derived.Laws.Rows
import Derived.Laws.CopyOwn
import Derived.Deep.MidRow
import Derived.StillTail
import Derived.Test.YtlgpdbgingjpbaaGreatHa
import Derived.Deep.CutBlock
set_option linter.all false
namespace Go.Proofs.YtlgpdbgingjpbaaGreat
section
open Go.RowKit
section
variable {P:Program} {ops:Array Oper} {Q:Exit→Act→World→Prop} {md:Region.Mode} {S:World→Prop}
theorem pA {α:Type} (l:List α) (i:Nat) (a:α):l.toArray.setIfInBounds i a=(l.set i a).toArray:=by simp
theorem pB {α:Type} (l:List α) (a b:α):(a :: l).set 0 b=b :: l:=rfl
theorem pC {α:Type} (l:List α) (a b:α) (n:Nat):(a :: l).set (n+1) b=a :: l.set n b:=rfl
theorem tkR (i d:Nat) {o1:Op} {o2:TypeId} {o3:String} {o4:Array Edge} {o5:Option (Nat×Bool)} {v:Value} {fuel:Nat} {listed:Array Bool} {a:Act} {w:World} (hi:ops[i]?=some ⟨some d,o1,o2,o3,o4,o5⟩) (hS:S w)
  (hy:∀ w',S w'→(execOp a.eval ⟨some d,o1,o2,o3,o4,o5⟩).run P w'=.ok (.value v) w')
  (h:wpAnyH P md ops Q S fuel (listed.setIfInBounds i true) ⟨a.tmps.setIfInBounds d v,a.defers⟩ w)
  (hg:Region.wanted ⟨some d,o1,o2,o3,o4,o5⟩ (yielded ops a.tmps)=true:=by rfl) (hs:Region.noSelect ops=true:=by kernel_rfl) (hf:Region.free md ops listed i=true:=by kernel_rfl) (hr:(Region.ready md ops listed).contains i=true:=by kernel_rfl)
  (hQ:∀ c a w,Q (.panic c) (a.put (some d) v) w→Q (.panic c) a w:=by exact fun _ _ _ h=>h):wpAnyH P md ops Q S (fuel+1) listed a w:=
 wpAnyH_take (oi:=⟨some d,o1,o2,o3,o4,o5⟩) hi hs hf hr hQ (.inl ⟨hg,hy⟩) hS h
theorem tkU (i d:Nat) {o1:Op} {o2:TypeId} {o3:String} {o4:Array Edge} {o5:Option (Nat×Bool)} {fuel:Nat} {listed:Array Bool} {a:Act} {w:World} (hi:ops[i]?=some ⟨some d,o1,o2,o3,o4,o5⟩) (hS:S w)
  (h:wpAnyH P md ops Q S fuel (listed.setIfInBounds i true) ⟨a.tmps.setIfInBounds d undef,a.defers⟩ w)
  (hg:Region.wanted ⟨some d,o1,o2,o3,o4,o5⟩ (yielded ops a.tmps)=false:=by rfl) (hs:Region.noSelect ops=true:=by kernel_rfl) (hf:Region.free md ops listed i=true:=by kernel_rfl) (hr:(Region.ready md ops listed).contains i=true:=by kernel_rfl)
  (hQ:∀ c a w,Q (.panic c) (a.put (some d) undef) w→Q (.panic c) a w:=by exact fun _ _ _ h=>h):wpAnyH P md ops Q S (fuel+1) listed a w:=
 wpAnyH_take (oi:=⟨some d,o1,o2,o3,o4,o5⟩) hi hs hf hr hQ (.inr ⟨hg,rfl⟩) hS h
end
end
section
open Go.ChangeShapes Go.WideShapes Go.ChangeAt Go.RowKit Go.Deep
theorem emayBe_any (st lv:Int) (k f:Int) (r wr x a n:Bool) (s o:Int) (w:World) :
  Calls Tryz.prog 326 #[.agg #[.int .i64 st,.int .i64 lv,.int .i64 k,.int .i64 f,.bool r,.bool wr,.bool x,.bool a,.bool n,.int .i64 s,.int .i64 o]] w fun e w'=>e=.returned (.bool (mayE st lv (Dsc.mk k f r wr x a n s o)))∧Below w.heap.size w w':=by
 have hm:mayE st lv (Dsc.mk k f r wr x a n s o)=(placeB st lv&&mayD st lv (Dsc.mk k f r wr x a n s o)):=rfl
 have HM:=Lib.hid hm
 have HS:=Lib.hid (fun W=>spot_mayBe st lv W)
 clear hm
 cases hp:placeB st lv
 ·rw [hp] at HS HM
  clear hp
  go_enter Tryz.func326,Tryz.ntmps326
  go_wp2_with (go_at_call 324;refine (HS.out _).mono ?_;rintro e w' ⟨rfl,rfl⟩)
  go_ret
  rw [HM.out]
  exact ⟨rfl,by go_grown⟩
 ·obtain ⟨_,hl0,hl3⟩:=placeB_iff.1 hp
  rw [hp,Bool.true_and] at HM
  rw [hp] at HS
  clear hp
  by_cases k0:k=0
  ·subst k0
   have HN:=Lib.hid (fun W=>none_any st lv 0 f r wr x a n s o W rfl)
   have he:mayD st lv (Dsc.mk 0 f r wr x a n s o)=noneD st (Dsc.mk 0 f r wr x a n s o):=rfl
   rw [he] at HM
   clear he
   go_enter Tryz.func326,Tryz.ntmps326
   go_wp2_with (first | (go_at_call 324;refine (HS.out _).mono ?_;rintro e w' ⟨rfl,rfl⟩) | (go_at_call 335;refine (HN.out _).mono ?_;rintro e w' ⟨rfl,hb1⟩))
   go_ret
   rw [HM.out]
   exact ⟨rfl,bel_trans (by go_grown) hb1⟩
  ·have t0:(k==0)=false:=by simpa using k0
   by_cases k1:k=1
   ·subst k1
    have HN:=Lib.hid (fun W=>table_any st lv 1 f r wr x a n s o W rfl)
    have he:mayD st lv (Dsc.mk 1 f r wr x a n s o)=tableD lv (Dsc.mk 1 f r wr x a n s o):=rfl
    rw [he] at HM
    clear he
    go_enter Tryz.func326,Tryz.ntmps326
    go_wp2_with (first | (go_at_call 324;refine (HS.out _).mono ?_;rintro e w' ⟨rfl,rfl⟩) | (go_at_call 336;refine (HN.out _).mono ?_;rintro e w' ⟨rfl,hb1⟩))
    go_ret
    rw [HM.out]
    exact ⟨rfl,bel_trans (by go_grown) hb1⟩
   ·have t1:(k==1)=false:=by simpa using k1
    by_cases k2:k=2
    ·subst k2
     have HN:=Lib.hid (fun W=>leaf_any st lv 2 f r wr x a n s o W hl0 hl3)
     have he:mayD st lv (Dsc.mk 2 f r wr x a n s o)=leafD st lv (Dsc.mk 2 f r wr x a n s o):=rfl
     rw [he] at HM
     clear he
     go_enter Tryz.func326,Tryz.ntmps326
     go_wp2_with (first | (go_at_call 324;refine (HS.out _).mono ?_;rintro e w' ⟨rfl,rfl⟩) | (go_at_call 337;refine (HN.out _).mono ?_;rintro e w' ⟨rfl,hb1⟩))
     go_ret
     rw [HM.out]
     exact ⟨rfl,bel_trans (by go_grown) hb1⟩
    ·have t2:(k==2)=false:=by simpa using k2
     have he:mayD st lv (Dsc.mk k f r wr x a n s o)=false:=by simp [mayD,k0,k1,k2]
     rw [he] at HM
     clear he k0 k1 k2
     go_enter Tryz.func326,Tryz.ntmps326
     go_wp2_with (go_at_call 324;refine (HS.out _).mono ?_;rintro e w' ⟨rfl,rfl⟩)
     go_ret
     rw [HM.out]
     exact ⟨rfl,by go_grown⟩
end
section
open Go.ChangeShapes Go.WideShapes Go.ChangeAt Go.RowKit Go.Deep
theorem BoxAt.put {w:World} {b:Nat} {cs cs':Array Value} {t:TypeId} (h:BoxAt w b cs t):BoxAt (w.setRow b cs') b cs' t:=⟨setRow_heap w b cs cs' t (0,0) h.h⟩
theorem BoxAt.row {w:World} {b g:Nat} {cs cs':Array Value} {t:TypeId} (h:BoxAt w b cs t) (hne:b≠g):BoxAt (w.setRow g cs') b cs t:=⟨(setRow_other w g b cs' hne).trans h.h⟩
theorem OwnI.row {w:World} {base g:Nat} {v:Value} {L:List Int} {cs:Array Value} (h:OwnI w base v L) (hb:g < base):OwnI (w.setRow g cs) base v L:=by
 refine ⟨h.1,?_⟩
 rcases h.2 with hn | ⟨g',cap,cur,rfl,hbg,hgg,rest⟩
 ·exact .inl hn
 ·exact .inr ⟨g',cap,cur,rfl,hbg,(setRow_other w g g' cs (by omega)).trans hgg,rest⟩
theorem OwnI.under {B:Nat} {w w':World} {base:Nat} {v:Value} {L:List Int} (h:OwnI w base v L) (hb:Below B w w') (hlt:∀ k,v.ownBlock=some k→k < B):OwnI w' base v L:=by
 refine ⟨h.1,?_⟩
 rcases h.2 with hn | ⟨g',cap,cur,rfl,hbg,hgg,rest⟩
 ·exact .inl hn
 ·exact .inr ⟨g',cap,cur,rfl,hbg,(hb.block g' (hlt g' rfl)).trans hgg,rest⟩
theorem OwnI.blt {w:World} {base:Nat} {v:Value} {L:List Int} (h:OwnI w base v L):∀ k,v.ownBlock=some k→k < w.heap.size:=fun k hk=>(World.ownsRow.lt h k hk).2
end
section
open Go.ChangeShapes Go.WideShapes Go.ChangeAt Go.RowKit Go.Deep
inductive Knd (X:Type) where
 | con (v:Value)
 | ld (v:Value)
 | res (f:X→Value)
 | new (t:TypeId) (z:Array Value)
 | sto (j:Nat) (cs:X→Array Value)
 | cal (V:X→Value)
structure Ent (X:Type) where
 d:Option Nat
 k:Knd X
section
variable {P:Program} {ops:Array Oper} {Q:Exit→Act→World→Prop} {X:Type}
def Knd.val (i:Nat) (x:X) (β:Nat→Nat):Knd X→Value
 | .con v=>v
 | .ld v=>v
 | .res f=>f x
 | .new _ _=>.pointer (some ⟨β i,0,none⟩)
 | .sto _ _=>undef
 | .cal V=>V x
def rgOp (ops:Array Oper) (i:Nat):Oper:=ops.getD i ⟨none,.move (.const undef),0,"",#[],none⟩
def Knd.obl (P:Program) (ops:Array Oper) (I0:World→Prop) (A:X→(Nat→Nat)→Act) (U:List (Ent X)) (i:Nat):Knd X→Prop
 | .con v=>∀ x β w,(execOp (A x β).eval (rgOp ops i)).run P w=.ok (.value v) w
 | .ld v=>∀ x β w,I0 w→(execOp (A x β).eval (rgOp ops i)).run P w=.ok (.value v) w
 | .res f=>∀ x β w,(execOp (A x β).eval (rgOp ops i)).run P w=.ok (.value (f x)) w
 | .new t z=>∀ x β w,(execOp (A x β).eval (rgOp ops i)).run P w=.ok (.value (.pointer (some ⟨w.heap.size,0,none⟩))) (w.alloc (.cells z t))
 | .sto j cs=>∃ t z d,U[j]?=some ⟨d,.new t z⟩∧∀ x β w,BoxAt w (β j) z t→(execOp (A x β).eval (rgOp ops i)).run P w=.ok .skip (w.setRow (β j) (cs x))
 | .cal _=>True
structure NewOk (U:List (Ent X)) (lo:Nat) (D:Nat→Bool) (x:X) (β:Nat→Nat) (w:World):Prop where
 box:∀ i t z d,U[i]?=some ⟨d,.new t z⟩→D i=true→lo≤β i∧((∃ k cs d',U[k]?=some ⟨d',.sto i cs⟩∧D k=true∧BoxAt w (β i) (cs x) t)∨((∀ k cs d',U[k]?=some ⟨d',.sto i cs⟩→D k=false)∧BoxAt w (β i) z t))
 ne:∀ i j t z d t' z' d',U[i]?=some ⟨d,.new t z⟩→U[j]?=some ⟨d',.new t' z'⟩→D i=true→D j=true→i≠j→β i≠β j
theorem NewOk.lt {U:List (Ent X)} {lo:Nat} {D:Nat→Bool} {x:X} {β:Nat→Nat} {w:World} (h:NewOk U lo D x β w) {i:Nat} {t:TypeId} {z:Array Value} {d:Option Nat} (hi:U[i]?=some ⟨d,.new t z⟩) (hD:D i=true):β i < w.heap.size:=by
 rcases (h.box i t z d hi hD).2 with ⟨k,cs,d',_,_,hb⟩ | ⟨_,hb⟩<;>exact hb.lt
theorem NewOk.same {U:List (Ent X)} {lo:Nat} {D D':Nat→Bool} {x:X} {β:Nat→Nat} {w:World} (h:NewOk U lo D x β w) (hD:∀ k,(∃ t z d,U[k]?=some ⟨d,.new t z⟩)∨(∃ j cs d,U[k]?=some ⟨d,.sto j cs⟩)→D' k=D k):NewOk U lo D' x β w:=by
 refine ⟨fun i t z d hi hd=>?_,fun i j t z d t' z' d' hi hj h1 h2 hne=>?_⟩
 ·rw [hD i (.inl ⟨t,z,d,hi⟩)] at hd
  refine ⟨(h.box i t z d hi hd).1,(h.box i t z d hi hd).2.imp ?_ ?_⟩
  ·rintro ⟨k,cs,d',hk,hk2,hb⟩
   exact ⟨k,cs,d',hk,(hD k (.inr ⟨i,cs,d',hk⟩)).trans hk2,hb⟩
  ·rintro ⟨hk,hb⟩
   exact ⟨fun k cs d' hk'=>(hD k (.inr ⟨i,cs,d',hk'⟩)).trans (hk k cs d' hk'),hb⟩
 ·rw [hD i (.inl ⟨t,z,d,hi⟩)] at h1
  rw [hD j (.inl ⟨t',z',d',hj⟩)] at h2
  exact h.ne i j t z d t' z' d' hi hj h1 h2 hne
end
end
section
open Go.ChangeShapes Go.WideShapes Go.ChangeAt Go.RowKit Go.Deep
section
variable {P:Program} {ρ:Operand→Value} {o:Oper} {w:World}
theorem run_ldN (ty:TypeId) (x:Operand) (b off:Nat) {cs:Array Value} {d:TypeDesc} (h1:o.op=.load ty x) (h2:ρ x=.pointer (some ⟨b,off,none⟩)) (hu:P.underlying ty=some d)
  (hd:(match d with | .struct _ | .array _ _=>true | _=>false)=true) (hi:(P.info? ty).map (·.size)=some cs.size) (hc:∀ j v,cs[j]?=some v→w.cell? ⟨b,off+j,none⟩=some v):(execOp ρ o).run P w=.ok (.value (.agg cs)) w:=by
 have hl:(loadCells ⟨b,off,none⟩ cs.toList.length).run P w=.ok cs.toList.toArray w:=
  run_loadCells_list (P:=P) w ⟨b,off,none⟩ cs.toList (fun j v hv=>by
   rw [add_none]
   exact hc j v (by simpa using hv))
 cases hq:P.info? ty with
 | none=>simp [hq] at hi
 | some i=>
  have hs:i.size=cs.size:=by simpa [hq] using hi
  have hagg:(isAgg ty).run P w=.ok true w:=by
   unfold isAgg
   rw [Sem.run_bind,run_underlying hu w]
   cases d<;>simp_all
  simp only [Array.length_toList,Array.toArray_toList] at hl
  unfold execOp
  simp only [h1,h2,Instr.loadAt,Instr.sureAddr,Sem.run_bind,Sem.run_pure,Result.andThen_ok]
  simp [loadVar,Sem.run_bind,hagg,sizeOf,typeInfo,hq,hs,hl]
end
section
variable {P:Program} {ops:Array Oper} {X:Type}
def AllObl (P:Program) (ops:Array Oper) (I0:World→Prop) (A:X→(Nat→Nat)→Act) (U:List (Ent X)):Nat→List (Ent X)→Prop
 | _,[]=>True
 | i,e :: V=>e.k.obl P ops I0 A U i∧AllObl P ops I0 A U (i+1) V
theorem AllObl.get {I0:World→Prop} {A:X→(Nat→Nat)→Act} {U:List (Ent X)}:∀ {V:List (Ent X)} {i:Nat},AllObl P ops I0 A U i V→∀ (k:Nat) (e:Ent X),V[k]?=some e→e.k.obl P ops I0 A U (i+k)
 | [],_,_,_,_,h=>by simp at h
 | e :: V,i,h,0,e',he=>by
  obtain rfl:e=e':=by simpa using he
  exact h.1
 | e :: V,i,h,k+1,e',he=>by
  have:=h.2.get k e' (by simpa using he)
  rwa [show i+1+k=i+(k+1) by omega] at this
theorem AllObl.all {I0:World→Prop} {A:X→(Nat→Nat)→Act} {U:List (Ent X)} (h:AllObl P ops I0 A U 0 U):∀ (i:Nat) (e:Ent X),U[i]?=some e→e.k.obl P ops I0 A U i:=fun i e he=>by
 have:=h.get i e he
 rwa [Nat.zero_add] at this
end
section
variable {X:Type}
theorem BoxAt.sub {w:World} {b:Nat} {cs:Array Value} {t:TypeId} (h:BoxAt w b cs t) (off:Nat) (ds:Array Value) (hs:(cs.extract off (off+ds.size)).toList=ds.toList):∀ j v,ds[j]?=some v→w.cell? ⟨b,off+j,none⟩=some v:=by
 intro j v hj
 refine h.get (off+j) v ?_
 rw [← Array.getElem?_toList,← hs,Array.getElem?_toList,Array.getElem?_extract] at hj
 split at hj
 ·exact hj
 ·cases hj
end
end
section
open Go.ChangeShapes Go.WideShapes Go.ChangeAt Go.RowKit Go.Deep
theorem RowAt.sub {w:World} {b o N:Nat} {cs:Array Value} (h:RowAt w b o N cs) (off:Nat) (ds:Array Value) (hs:(cs.extract off (off+ds.size)).toList=ds.toList) (hN:off+ds.size≤N):∀ j v,ds[j]?=some v→w.cell? ⟨b,o+off+j,none⟩=some v:=by
 intro j v hj
 have hlt:j < ds.size:=(Array.getElem?_eq_some_iff.1 hj).1
 rw [Nat.add_assoc]
 refine h.get (off+j) v (by omega) ?_
 rw [← Array.getElem?_toList,← hs,Array.getElem?_toList,Array.getElem?_extract] at hj
 split at hj
 ·exact hj
 ·cases hj
end
section
open Go.ChangeShapes Go.WideShapes Go.ChangeAt Go.RowKit Go.Deep
def farP (p:BitVec 64) (L:Nat→Int):Nat→BitVec 64
 | 0=>p+4#64
 | k+1=>farP p L k+4#64 * BitVec.ofInt 64 (L k)
def nextR (r:Rg) (L:Nat→Int) (n:Nat):Rg:={ r with pc:=farP r.pc L n }
end
end Go.Proofs.YtlgpdbgingjpbaaGreat
