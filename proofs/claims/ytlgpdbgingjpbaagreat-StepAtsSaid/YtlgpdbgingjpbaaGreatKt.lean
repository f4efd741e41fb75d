/- Rows of structs,whatever the struct: in memory,and in a block of the call's own: made,appended to,read. A row of TLBs: each one's two slices. -/
import Derived.Test.YtlgpdbgingjpbaaGreatGb
import Derived.Test.YtlgpdbgingjpbaaGreatEo
import Derived.Test.YtlgpdbgingjpbaaGreatHb
import Derived.Laws.AppendOwn
import Derived.Laws.AppendOwnNone
import Derived.Laws.OwnMore
import Derived.Deep.AppendLies
set_option linter.all false
namespace Go.Proofs.YtlgpdbgingjpbaaGreat
section
open Go.ChangeShapes Go.WideShapes Go.ChangeAt Go.RowKit Go.Deep
structure RowK (Q:Type) where
 ts:TypeId
 t:TypeId
 N:Nat
 B:Nat
 z:Value
 V:Q→Array Value
 pos:0 < N
 small:B≤1000
 size:∀ q,(V q).size=N
 one:∀ q,∀ v∈(V q).toList,v.oneCell'=true
 under:Tryz.prog.underlying ts=some (.slice t)
 info:(Tryz.prog.info? t).map (fun i=>(i.zero,i.size,i.bytes))=some (some z,N,B)
 zs:z.cells.size=N
section
variable {Q:Type} (K:RowK Q)
def rcells:List Q→List Value
 | []=>[]
 | x :: L=>(K.V x).toList++rcells L
theorem rcells_append (L M:List Q):rcells K (L++M)=rcells K L++rcells K M:=by
 induction L with
 | nil=>rfl
 | cons x L ih=>simp only [List.cons_append,rcells,ih,List.append_assoc]
theorem rcells_length (L:List Q):(rcells K L).length=L.length * K.N:=by
 induction L with
 | nil=>simp [rcells]
 | cons x L ih=>simp only [rcells,List.length_append,Array.length_toList,K.size,List.length_cons,ih,Nat.add_mul];omega
theorem rcells_one (L:List Q):∀ v∈rcells K L,v.oneCell'=true:=by
 induction L with
 | nil=>intro v hv;cases hv
 | cons x L ih=>
  intro v hv
  rcases List.mem_append.1 hv with hv | hv
  ·exact K.one x v hv
  ·exact ih v hv
theorem rcells_get (L:List Q) (j:Nat) (q:Q) (hj:L[j]?=some q) (i:Nat) (hi:i < K.N):(rcells K L)[j * K.N+i]?=(K.V q)[i]?:=by
 induction L generalizing j with
 | nil=>cases hj
 | cons x L ih=>
  cases j with
  | zero=>
   simp only [List.getElem?_cons_zero,Option.some.injEq] at hj
   subst hj
   rw [Nat.zero_mul,Nat.zero_add]
   show ((K.V x).toList++_)[i]?=_
   rw [List.getElem?_append_left (by rw [Array.length_toList,K.size];exact hi),Array.getElem?_toList]
  | succ j=>
   have h2:=ih j (by simpa using hj)
   show ((K.V x).toList++_)[(j+1) * K.N+i]?=_
   rw [List.getElem?_append_right (by rw [Array.length_toList,K.size,Nat.add_mul];omega),Array.length_toList,K.size,← h2]
   congr 1
   rw [Nat.add_mul]
   omega
def RowsAt (w:World) (f:Option Addr) (L:List Q):Prop:=∀ (j:Nat) (q:Q),L[j]?=some q→∃ b o,f=some ⟨b,o,none⟩∧RowAt w b (o+j * K.N) K.N (K.V q)
def OwnR (w:World) (base:Nat) (v:Value) (L:List Q):Prop:=w.ownsRow base K.t K.N v L.length (rcells K L)
end
theorem RowAt.alloc {W:World} {b o N:Nat} {cs:Array Value} (h:RowAt W b o N cs) (x:Obj):RowAt (W.alloc x) b o N cs:=h.below (bel_alloc (Below.refl _ _) x)
theorem RowAt.drew {W:World} {b o N:Nat} {cs:Array Value} (h:RowAt W b o N cs):RowAt W.drew b o N cs:=h.below (Below.drew (Below.refl _ _))
theorem RowAt.row {W:World} {b o N g:Nat} {cs ds:Array Value} (h:RowAt W b o N cs) (hne:b≠g):RowAt (W.setRow g ds) b o N cs:=
 ⟨by have:=setRow_other W g b ds hne;have h1:=h.lt;rw [Array.getElem?_eq_getElem h1] at this;exact (Array.getElem?_eq_some_iff.1 this).1,fun j hj=>(cell_setRow_other W g ds ⟨b,o+j,none⟩ hne).trans (h.c j hj)⟩
theorem RowAt.other {W:World} {b o N:Nat} {cs:Array Value} (h:RowAt W b o N cs) (p:Addr) (v:Value) (hne:b≠p.block):RowAt (W.setCell p v) b o N cs:=by
 have h0:=Below.heap_setCell W p v b hne
 refine ⟨by have h1:=h.lt;rw [Array.getElem?_eq_getElem h1] at h0;exact (Array.getElem?_eq_some_iff.1 h0).1,fun j hj=>(World.cell?_of_block (a:=⟨b,o+j,none⟩) h0).trans (h.c j hj)⟩
theorem RowAt.under {B:Nat} {W w:World} {b o N:Nat} {cs:Array Value} (h:RowAt W b o N cs) (hb:Below B W w) (hB:b < B):RowAt w b o N cs:=
 ⟨Nat.lt_of_lt_of_le h.lt hb.size,fun j hj=>(World.cell?_of_block (a:=⟨b,o+j,none⟩) (hb.block b hB)).trans (h.c j hj)⟩
section
variable {Q:Type} {K:RowK Q}
theorem RowsAt.below {W w:World} {f:Option Addr} {L:List Q} (h:RowsAt K W f L) (hb:Below W.heap.size W w):RowsAt K w f L:=by
 intro j q hj
 obtain ⟨b,o,hf,hr⟩:=h j q hj
 exact ⟨b,o,hf,hr.below hb⟩
theorem RowsAt.nil (w:World) (f:Option Addr):RowsAt K w f []:=fun j q hj=>by simp at hj
theorem OwnR.nil (w:World) (base:Nat):OwnR K w base (.slice none 0 0) []:=World.ownsRow_nil w base K.t K.N
theorem OwnR.below {w w':World} {base:Nat} {v:Value} {L:List Q} (h:OwnR K w base v L) (hb:Below w.heap.size w w'):OwnR K w' base v L:=by
 refine ⟨h.1,?_⟩
 rcases h.2 with hn | ⟨g,cap,cur,rfl,hbg,hgg,rest⟩
 ·exact .inl hn
 ·exact .inr ⟨g,cap,cur,rfl,hbg,(hb.block g (Array.getElem?_eq_some_iff.1 hgg).1).trans hgg,rest⟩
theorem OwnR.under {B:Nat} {w w':World} {base:Nat} {v:Value} {L:List Q} (h:OwnR K w base v L) (hb:Below B w w') (hlt:∀ k,v.ownBlock=some k→k < B):OwnR K w' base v L:=by
 refine ⟨h.1,?_⟩
 rcases h.2 with hn | ⟨g,cap,cur,rfl,hbg,hgg,rest⟩
 ·exact .inl hn
 ·exact .inr ⟨g,cap,cur,rfl,hbg,(hb.block g (hlt g rfl)).trans hgg,rest⟩
theorem OwnR.mono {w:World} {base base':Nat} {v:Value} {L:List Q} (h:OwnR K w base v L) (hb:base'≤base):OwnR K w base' v L:=by
 refine ⟨h.1,?_⟩
 rcases h.2 with hn | ⟨g,cap,cur,rfl,hbg,rest⟩
 ·exact .inl hn
 ·exact .inr ⟨g,cap,cur,rfl,by omega,rest⟩
theorem OwnR.blk {w:World} {base:Nat} {v:Value} {L:List Q} (h:OwnR K w base v L):∀ k,v.ownBlock=some k→base≤k:=fun k hk=>(World.ownsRow.lt h k hk).1
theorem OwnR.blt {w:World} {base:Nat} {v:Value} {L:List Q} (h:OwnR K w base v L):∀ k,v.ownBlock=some k→k < w.heap.size:=fun k hk=>(World.ownsRow.lt h k hk).2
theorem OwnR.otherN {w:World} {base:Nat} {v:Value} {L:List Q} (h:OwnR K w base v L) (p:Addr) (y:Value) (hb:v.ownBlock≠some p.block):OwnR K (w.setCell p y) base v L:=by
 refine ⟨h.1,?_⟩
 rcases h.2 with hn | ⟨g,cap,cur,rfl,hbg,hgg,rest⟩
 ·exact .inl hn
 ·refine .inr ⟨g,cap,cur,rfl,hbg,(Below.heap_setCell w p y g ?_).trans hgg,rest⟩
  rintro rfl
  exact hb rfl
theorem OwnR.other {w:World} {base:Nat} {v:Value} {L:List Q} (h:OwnR K w base v L) (p:Addr) (y:Value) (hb:p.block < base):OwnR K (w.setCell p y) base v L:=
 h.otherN p y (fun he=>by have:=h.blk _ he;omega)
theorem OwnR.drew {w:World} {base:Nat} {v:Value} {L:List Q} (h:OwnR K w base v L):OwnR K w.drew base v L:=h.below (Below.drew (Below.refl _ _))
theorem OwnR.alloc {w:World} {base:Nat} {v:Value} {L:List Q} (h:OwnR K w base v L) (o:Obj):OwnR K (w.alloc o) base v L:=h.below (bel_alloc (Below.refl _ _) o)
theorem OwnR.form {w:World} {base:Nat} {v:Value} {L:List Q} (h:OwnR K w base v L):∃ f c,v=.slice f L.length c∧RowsAt K w f L∧(f=none→c=0):=by
 rcases h.2 with ⟨rfl,hz⟩ | ⟨g,cap,cur,rfl,hbg,hgg,hrest⟩
 ·have hl:L.length=0:=hz
  have hL:L=[]:=List.eq_nil_of_length_eq_zero hl
  subst hL
  exact ⟨none,0,rfl,RowsAt.nil _ _,fun _=>rfl⟩
 ·refine ⟨_,cap,rfl,fun j q hj=>⟨g,0,rfl,(Array.getElem?_eq_some_iff.1 hgg).1,fun i hi=>?_⟩,by simp⟩
  have hjl:j < L.length:=(List.getElem?_eq_some_iff.1 hj).1
  have hlt:j * K.N+i < L.length * K.N:=by
   have:(j+1) * K.N≤L.length * K.N:=Nat.mul_le_mul_right _ hjl
   rw [Nat.add_mul] at this
   omega
  have:=World.ownsRow.cellAt h (j * K.N+i) hlt
  rw [rcells_get K L j q hj i hi] at this
  rw [Nat.zero_add]
  exact this
theorem OwnR.rows {w:World} {base:Nat} {f:Option Addr} {n c:Nat} {L:List Q} (h:OwnR K w base (.slice f n c) L):n=L.length∧RowsAt K w f L:=by
 obtain ⟨f',c',hv,hw,_⟩:=h.form
 simp at hv
 obtain ⟨rfl,rfl,rfl⟩:=hv
 exact ⟨rfl,hw⟩
theorem OwnR.made (w:World) (base:Nat) (L:List Q) (cs:Array Value) (n:Nat) (hb:base≤w.heap.size) (hn:n=L.length) (hl:L.length≤1000000) (hc:cs.toList=rcells K L):OwnR K (w.alloc (.cells cs K.t)) base (.slice (some ⟨w.heap.size,0,none⟩) n n) L:=by
 subst hn
 have h1:cs.size=L.length * K.N:=by rw [← Array.length_toList,hc,rcells_length]
 refine ⟨rcells_length K L,.inr ⟨w.heap.size,L.length,cs,rfl,hb,heap_alloc_new w _,Nat.le_refl _,by unfold maxLen;omega,h1,?_⟩⟩
 rw [hc,List.take_of_length_le (by rw [rcells_length];omega)]
theorem step_rowR {w:World} {ops:Array Oper} {o:Oper} {a:Act} {KK:Act→World→Prop} {QQ:Exit→Act→World→Prop} {E:Prop} (hgd:o.guard=none) (s x:Operand)
  (ho:o.op=.call { callee:=.builtin .append,args:=#[s,x],argTypes:=#[K.ts,K.ts] })
  (base:Nat) (v:Value) (L M:List Q) (hs:a.eval s=v) (hown:OwnR K w base v L)
  (f:Option Addr) (m c:Nat) (hx:a.eval x=.slice f m c) (hm:m=M.length) (hM:RowsAt K w f M) (hf:f=none→c=0) (hk:L.length+M.length≤100000) (hbase:base≤w.heap.size)
  (h:∀ f' c' w',OwnR K w' base (.slice f' (L.length+M.length) c') (L++M)→w.grownBy w' v.ownBlock→(f'=none→c'=0)→KK (a.put o.dst (.slice f' (L.length+M.length) c')) w'):if Region.wanted o (yielded ops a.tmps)=true then Oper.wp Tryz.prog o a w KK QQ else E:=by
 have hw:Region.wanted o (yielded ops a.tmps)=true:=by simp [Region.wanted,hgd]
 rw [if_pos hw]
 subst hm
 obtain ⟨i0,hi,hz0,hz1,hz2⟩:=info_parts K.info
 have hsm:=K.small
 cases f with
 | none=>
  have hM0:M=[]:=by
   cases M with
   | nil=>rfl
   | cons y M=>obtain ⟨b,o,hb,_⟩:=hM 0 y rfl;cases hb
  subst hM0
  have hc:c=0:=hf rfl
  subst hc
  have hrun:=run_append_owned_none (P:=Tryz.prog) (w:=w) base K.ts o.type K.t i0 K.N K.under hi v L.length (rcells K L) hown
  obtain ⟨f',c',hv',hr',hn'⟩:=hown.form
  have h2:=h f' c' w (by rw [List.append_nil];have:=hown;rw [hv'] at this;exact this) ⟨rfl,rfl,rfl,Nat.le_refl _,fun _ _ _=>rfl⟩ hn'
  unfold Oper.wp
  simp [execOp,ho,resolve,invoke,builtin,hs,hx,hrun,Result.andThen]
  rw [hv']
  exact h2
 | some ad=>
  refine wp_append_own _ s x K.ts ho base K.t i0 K.z K.N K.B K.under hi hz0 hz1 hz2 K.zs K.pos _ L.length (rcells K L) hs hown ad M.length c (rcells K M) hx (rcells_length K M) ?_ (rcells_one K M)
   (by unfold maxLen;omega) ?_ hbase ?_
  ·intro t v hv
   have ht:t < M.length * K.N:=by
    have:=(List.getElem?_eq_some_iff.1 hv).1
    rwa [rcells_length] at this
   have hj:t / K.N < M.length:=(Nat.div_lt_iff_lt_mul K.pos).2 ht
   have hi:t % K.N < K.N:=Nat.mod_lt _ K.pos
   have hq:M[t / K.N]?=some (M[t / K.N]'hj):=List.getElem?_eq_getElem hj
   obtain ⟨b,o,hbo,hr⟩:=hM _ _ hq
   simp only [Option.some.injEq] at hbo
   subst hbo
   have h3:=rcells_get K M (t / K.N) _ hq (t % K.N) hi
   have e:t / K.N * K.N+t % K.N=t:=by rw [Nat.mul_comm];exact Nat.div_add_mod t K.N
   rw [e] at h3
   have h4:=hr.c (t % K.N) hi
   rw [Nat.add_assoc,e] at h4
   rw [add_none,h4,← h3]
   exact hv
  ·have:=Nat.mul_le_mul hk hsm
   omega
  ·intro v' w' hown' hgrow _
   have hO:OwnR K w' base v' (L++M):=by
    unfold OwnR
    rw [rcells_append,List.length_append]
    exact hown'
   obtain ⟨f',c',rfl,_,hn⟩:=hO.form
   have e1:(L++M).length=L.length+M.length:=by simp
   rw [e1] at hO ⊢
   exact h f' c' w' hO hgrow hn
theorem wpList_rowR {w:World} {ops:Array Oper} {rest:List Oper} {o:Oper} {a:Act} {QQ:Exit→Act→World→Prop} (hgd:o.guard=none) (s x:Operand)
  (ho:o.op=.call { callee:=.builtin .append,args:=#[s,x],argTypes:=#[K.ts,K.ts] })
  (base:Nat) (v:Value) (L M:List Q) (hs:a.eval s=v) (hown:OwnR K w base v L)
  (f:Option Addr) (m c:Nat) (hx:a.eval x=.slice f m c) (hm:m=M.length) (hM:RowsAt K w f M) (hf:f=none→c=0) (hk:L.length+M.length≤100000) (hbase:base≤w.heap.size)
  (h:∀ f' c' w',OwnR K w' base (.slice f' (L.length+M.length) c') (L++M)→w.grownBy w' v.ownBlock→(f'=none→c'=0)→wpList Tryz.prog ops QQ rest (a.put o.dst (.slice f' (L.length+M.length) c')) w'):wpList Tryz.prog ops QQ (o :: rest) a w:=
 wpList_plain hgd fun _ hK=>by
  have hw:Region.wanted o (yielded ops a.tmps)=true:=by simp [Region.wanted,hgd]
  have:=step_rowR (ops:=ops) (E:=False) (QQ:=QQ) hgd s x ho base v L M hs hown f m c hx hm hM hf hk hbase (fun f' c' w' h1 h2 h3=>hK _ _ (h f' c' w' h1 h2 h3))
  rwa [if_pos hw] at this
end
section
variable {H:Type} {enc:TypeId×Value→H} {w:World} {base:Nat} {held:Bool}
end
end
section
open Go.ChangeShapes Go.WideShapes Go.ChangeAt Go.RowKit Go.Deep
structure Tlh where
 f:Option Addr
 l:Nat
 c:Nat
 g:Option Addr
 m:Nat
 d:Nat
def tlhC (t:Tlh):Array Value:=#[.slice t.f t.l t.c,.slice t.g t.m t.d]
def tlh0:Tlh:=⟨none,0,0,none,0,0⟩
def KT:RowK Tlh where
 ts:=31
 t:=77
 N:=2
 B:=48
 z:=.agg (tlhC tlh0)
 V:=tlhC
 pos:=by decide
 small:=by decide
 size:=fun _=>rfl
 one:=fun q v hv=>by
  simp only [tlhC,List.mem_cons,List.not_mem_nil,or_false] at hv
  rcases hv with rfl | rfl<;>rfl
 under:=Tryz.underlying31
 info:=by kernel_rfl
 zs:=rfl
end
end Go.Proofs.YtlgpdbgingjpbaaGreat
