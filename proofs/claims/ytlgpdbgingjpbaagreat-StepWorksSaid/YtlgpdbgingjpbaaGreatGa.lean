/- Rows of fields of the call's own: made,appended to,read. Instructions,plainly: which may be,their words,what a word is. -/
import Derived.Test.YtlgpdbgingjpbaaGreatDb
import Derived.Laws.AppendOwn
import Derived.Laws.AppendOwnNone
import Derived.Laws.OwnMore
import Derived.Deep.AppendLies
set_option linter.all false
namespace Go.Proofs.YtlgpdbgingjpbaaGreat
section
open Go.ChangeShapes Go.WideShapes Go.ChangeAt Go.RowKit Go.Deep
def cellsL:List Fld→List Value
 | []=>[]
 | x :: L=>.int .i64 x.a :: .int .i64 x.n :: .int .u64 (u x.v) :: cellsL L
theorem cellsL_append (L M:List Fld):cellsL (L++M)=cellsL L++cellsL M:=by
 induction L with
 | nil=>rfl
 | cons x L ih=>simp only [List.cons_append,cellsL,ih]
theorem cellsL_length (L:List Fld):(cellsL L).length=L.length * 3:=by
 induction L with
 | nil=>rfl
 | cons x L ih=>simp only [cellsL,List.length_cons,ih];omega
theorem cellsL_one (L:List Fld):∀ v∈cellsL L,v.oneCell'=true:=by
 induction L with
 | nil=>intro v hv;cases hv
 | cons x L ih=>
  intro v hv
  simp only [cellsL,List.mem_cons] at hv
  rcases hv with rfl | rfl | rfl | hv
  ·rfl
  ·rfl
  ·rfl
  ·exact ih v hv
theorem cellsL_get (L:List Fld) (j:Nat) (hj:j < L.length):(cellsL L)[j * 3]?=some (.int .i64 (nth L j).a)∧(cellsL L)[j * 3+1]?=some (.int .i64 (nth L j).n)∧(cellsL L)[j * 3+2]?=some (.int .u64 (u (nth L j).v)):=by
 induction L generalizing j with
 | nil=>cases hj
 | cons x L ih=>
  cases j with
  | zero=>exact ⟨rfl,rfl,rfl⟩
  | succ j=>
   have:=ih j (by simpa using hj)
   rw [show (j+1) * 3=j * 3+3 from by omega]
   exact this
theorem infoF:(Tryz.prog.info? 140).map (fun i=>(i.zero,i.size,i.bytes))=some (some (.agg #[.int .i64 0,.int .i64 0,.int .u64 0]),3,24):=by kernel_rfl
def OwnL (w:World) (base:Nat) (v:Value) (L:List Fld):Prop:=w.ownsRow base 140 3 v L.length (cellsL L)
theorem OwnL.lt {w:World} {base g n c:Nat} {L:List Fld} (h:OwnL w base (.slice (some ⟨g,0,none⟩) n c) L):base≤g∧g < w.heap.size:=World.ownsRow.lt h g rfl
theorem OwnL.blk {w:World} {base:Nat} {v:Value} {L:List Fld} (h:OwnL w base v L):∀ k,v.ownBlock=some k→base≤k:=fun k hk=>(World.ownsRow.lt h k hk).1
theorem OwnL.below {w w':World} {base:Nat} {v:Value} {L:List Fld} (h:OwnL w base v L) (hb:Below w.heap.size w w'):OwnL w' base v L:=by
 obtain ⟨h0,h1⟩:=h
 refine ⟨h0,?_⟩
 rcases h1 with h1 | ⟨g,cap,cur,e,hg,hh,h2⟩
 ·exact .inl h1
 ·exact .inr ⟨g,cap,cur,e,hg,(hb.block g (Array.getElem?_eq_some_iff.1 hh).1).trans hh,h2⟩
theorem OwnL.base {w:World} {b b':Nat} {v:Value} {L:List Fld} (h:OwnL w b v L) (hb:b'≤b):OwnL w b' v L:=by
 obtain ⟨h0,h1⟩:=h
 refine ⟨h0,?_⟩
 rcases h1 with h1 | ⟨g,cap,cur,e,hg,hh,h2⟩
 ·exact .inl h1
 ·exact .inr ⟨g,cap,cur,e,by omega,hh,h2⟩
theorem OwnL.made (w:World) (base n:Nat) (L:List Fld) (cs:Array Value) (hb:base≤w.heap.size) (hn:L.length=n) (hl:n≤100) (hc:cs.toList=cellsL L):OwnL (w.alloc (.cells cs 140)) base (.slice (some ⟨w.heap.size,0,none⟩) n n) L:=by
 have hsz:cs.size=n * 3:=by rw [← Array.length_toList,hc,cellsL_length,hn]
 refine ⟨cellsL_length L,.inr ⟨w.heap.size,n,cs,by rw [hn],hb,?_,by omega,by unfold maxLen;omega,hsz,?_⟩⟩
 ·exact heap_alloc_new w _
 ·rw [hc,List.take_of_length_le (by rw [cellsL_length];omega)]
def SmallL (L:List Fld):Prop:=∀ x∈L,-100≤x.a∧x.a≤100∧-100≤x.n∧x.n≤100
theorem OwnL.flds {w:World} {base g c:Nat} {L:List Fld} (h:OwnL w base (.slice (some ⟨g,0,none⟩) L.length c) L) (hs:SmallL L):FldsAt w (some ⟨g,0,none⟩) L.length (nth L):=by
 intro j hj
 obtain ⟨h1,h2,h3⟩:=cellsL_get L j hj
 have hm:nth L j∈L:=by rw [nth_get (List.getElem?_eq_getElem hj)];exact List.getElem_mem hj
 obtain ⟨b1,b2,b3,b4⟩:=hs _ hm
 have e:∀ t,0+j * 3+t=j * 3+t:=fun t=>by omega
 refine ⟨g,0,rfl,h.lt.2,?_,?_,?_,by omega,by omega,by omega,by omega⟩
 ·rw [show 0+j * 3=j * 3 from by omega];exact (World.ownsRow.cellAt h (j * 3) (by omega)).trans h1
 ·rw [e];exact (World.ownsRow.cellAt h (j * 3+1) (by omega)).trans h2
 ·rw [e];exact (World.ownsRow.cellAt h (j * 3+2) (by omega)).trans h3
theorem OwnL.news {w:World} {base g c:Nat} {L:List Fld} (h:OwnL w base (.slice (some ⟨g,0,none⟩) L.length c) L):∀ j v,(cellsL L)[j]?=some v→w.cell? ((Addr.mk g 0 none).add j)=some v:=by
 intro j v hv
 have hj:j < L.length * 3:=by
  have:=(List.getElem?_eq_some_iff.1 hv).1
  rwa [cellsL_length] at this
 rw [add_none,Nat.zero_add]
 exact (World.ownsRow.cellAt h j (by omega)).trans hv
theorem step_appL {w:World} {ops:Array Oper} {o:Oper} {a:Act} {K:Act→World→Prop} {Q:Exit→Act→World→Prop} {E:Prop} (hgd:o.guard=none) (s x:Operand)
  (ho:o.op=.call { callee:=.builtin .append,args:=#[s,x],argTypes:=#[233,233] })
  (base g0 n0 c0 g1 n1 c1:Nat) (L M:List Fld) (hs:a.eval s=.slice (some ⟨g0,0,none⟩) n0 c0) (hx:a.eval x=.slice (some ⟨g1,0,none⟩) n1 c1) (hn0:L.length=n0) (hn1:M.length=n1)
  (hL:OwnL w base (.slice (some ⟨g0,0,none⟩) n0 c0) L) (hM:OwnL w base (.slice (some ⟨g1,0,none⟩) n1 c1) M) (hm:0 < n1) (hl:n0+n1≤1000) (hbase:base≤w.heap.size)
  (h:∀ g cap w',OwnL w' base (.slice (some ⟨g,0,none⟩) (n0+n1) cap) (L++M)→Below base w w'→(∀ b,b < w.heap.size→b≠g0→w'.heap[b]?=w.heap[b]?)→K (a.put o.dst (.slice (some ⟨g,0,none⟩) (n0+n1) cap)) w') :
  if Region.wanted o (yielded ops a.tmps)=true then Oper.wp Tryz.prog o a w K Q else E:=by
 subst hn0 hn1
 obtain ⟨i0,hi,hz0,hz1,hz2⟩:=info_parts infoF
 refine step_append_lies _ hgd s x 233 ho base 140 i0 _ 3 24 Tryz.underlying233 hi hz0 hz1 hz2 rfl (by decide) _ L.length (cellsL L) hs hL ⟨g1,0,none⟩ M.length c1 (cellsL M) hx (cellsL_length M) hM.news (cellsL_one M) hm
  (by unfold maxLen;omega) (by omega) hbase _ rfl (fun g cap w' hown hgrow _ _=>?_)
 refine h g cap w' ?_ ((Below.refl base w).grown hgrow hbase hL.blk) (fun b hb hne=>hgrow.block b hb (fun e=>hne (Option.some.inj e)))
 unfold OwnL
 rw [cellsL_append,List.length_append]
 exact hown
theorem wpList_appL {w:World} {ops:Array Oper} {rest:List Oper} {o:Oper} {a:Act} {Q:Exit→Act→World→Prop} (hgd:o.guard=none) (s x:Operand)
  (ho:o.op=.call { callee:=.builtin .append,args:=#[s,x],argTypes:=#[233,233] })
  (base g0 n0 c0 g1 n1 c1:Nat) (L M:List Fld) (hs:a.eval s=.slice (some ⟨g0,0,none⟩) n0 c0) (hx:a.eval x=.slice (some ⟨g1,0,none⟩) n1 c1) (hn0:L.length=n0) (hn1:M.length=n1)
  (hL:OwnL w base (.slice (some ⟨g0,0,none⟩) n0 c0) L) (hM:OwnL w base (.slice (some ⟨g1,0,none⟩) n1 c1) M) (hm:0 < n1) (hl:n0+n1≤1000) (hbase:base≤w.heap.size)
  (h:∀ g cap w',OwnL w' base (.slice (some ⟨g,0,none⟩) (n0+n1) cap) (L++M)→Below base w w'→wpList Tryz.prog ops Q rest (a.put o.dst (.slice (some ⟨g,0,none⟩) (n0+n1) cap)) w'):wpList Tryz.prog ops Q (o :: rest) a w:=by
 subst hn0 hn1
 obtain ⟨i0,hi,hz0,hz1,hz2⟩:=info_parts infoF
 refine wpList_append_own _ hgd s x 233 ho base 140 i0 _ 3 24 Tryz.underlying233 hi hz0 hz1 hz2 rfl (by decide) _ L.length (cellsL L) hs hL ⟨g1,0,none⟩ M.length c1 (cellsL M) hx (cellsL_length M) hM.news (cellsL_one M)
  (by unfold maxLen;omega) (by omega) hbase (fun v' w' hown hgrow hiff=>?_)
 rcases hown.2 with ⟨h0,h1⟩ | ⟨g,cap,cur,rfl,_⟩
 ·omega
 ·refine h g cap w' ?_ ((Below.refl base w).grown hgrow hbase hL.blk)
  unfold OwnL
  rw [cellsL_append,List.length_append]
  exact hown
def EndL (w:World) (L:List Fld) (e:Ending) (w':World):Prop:=
 ∃ g c,e=.returned (.slice (some ⟨g,0,none⟩) L.length c)∧OwnL w' w.heap.size (.slice (some ⟨g,0,none⟩) L.length c) L∧Below w.heap.size w w'
end
section
open Go.ChangeShapes Go.WideShapes Go.ChangeAt Go.RowKit Go.Deep
structure Ins where
 op:Int
 d:Int
 n:Int
 m:Int
 i:Int
deriving DecidableEq
def ins0:Ins:=⟨0,0,0,0,0⟩
def insV (x:Ins):Value:=.agg #[.int .i64 x.op,.int .i64 x.d,.int .i64 x.n,.int .i64 x.m,.int .i64 x.i]
def inB (a b n:Int):Bool:=decide (a≤n∧n≤b)
theorem inB_iff {a b n:Int}:inB a b n=true↔a≤n∧n≤b:=by simp [inB]
def suitB (x:Ins):Bool:=if x.op=7∨x.op=8 then inB 0 3 x.m else if x.op=11∨x.op=12 then inB 0 5 x.i else if x.op=13 then inB 3 5 x.i else true
def mayI (x:Ins):Bool:=inB 1 16 x.op&&(inB 0 7 x.d&&(inB 0 7 x.n&&(inB 0 7 x.m&&(inB (-2048) 2047 x.i&&suitB x))))
def wordI (x:Ins):Int:=x.op * 134217728+x.d * 16777216+x.n * 2097152+x.m * 262144+x.i % 4096
def sg12 (n:Int):Int:=if n < 2048 then n else n - 4096
def readI (v:Int):Ins:=⟨v / 134217728,v / 16777216 % 8,v / 2097152 % 8,v / 262144 % 8,sg12 (v % 4096)⟩
def isI (v:Int):Bool:=mayI (readI v)&&decide (wordI (readI v)=v)
def ofI (v:Int):Ins:=if isI v=true then readI v else ins0
theorem mayI_iff {x:Ins}:mayI x=true↔(1≤x.op∧x.op≤16)∧(0≤x.d∧x.d≤7)∧(0≤x.n∧x.n≤7)∧(0≤x.m∧x.m≤7)∧(-2048≤x.i∧x.i≤2047)∧suitB x=true:=by
 simp only [mayI,Bool.and_eq_true,inB_iff]
theorem wordI_bd {x:Ins} (h:mayI x=true):0≤wordI x∧wordI x≤4294967295:=by
 obtain ⟨⟨a0,a1⟩,⟨b0,b1⟩,⟨c0,c1⟩,⟨d0,d1⟩,⟨e0,e1⟩,_⟩:=mayI_iff.1 h
 unfold wordI
 omega
def insL (x:Ins):List Fld:=[numFl 0 12 (x.i % 4096),numFl 18 3 x.m,numFl 21 3 x.n,numFl 24 3 x.d,numFl 27 5 x.op]
theorem insL_ok (x:Ins) (h:mayI x=true):∀ y∈insL x,okF y=true:=by
 obtain ⟨⟨a0,a1⟩,⟨b0,b1⟩,⟨c0,c1⟩,⟨d0,d1⟩,⟨e0,e1⟩,_⟩:=mayI_iff.1 h
 intro y hy
 simp only [insL,List.mem_cons,List.not_mem_nil,or_false] at hy
 rcases hy with rfl | rfl | rfl | rfl | rfl
 ·exact ok_num _ _ _ (by omega) (by omega) (by omega) (by omega) (by omega) (by rw [show u (msk 12)=4095 from by decide];omega)
 ·exact ok_num _ _ _ (by omega) (by omega) (by omega) (by omega) (by omega) (by rw [show u (msk 3)=7 from by decide];omega)
 ·exact ok_num _ _ _ (by omega) (by omega) (by omega) (by omega) (by omega) (by rw [show u (msk 3)=7 from by decide];omega)
 ·exact ok_num _ _ _ (by omega) (by omega) (by omega) (by omega) (by omega) (by rw [show u (msk 3)=7 from by decide];omega)
 ·exact ok_num _ _ _ (by omega) (by omega) (by omega) (by omega) (by omega) (by rw [show u (msk 5)=31 from by decide];omega)
theorem small_numF (p n v:Int) (h0:-100≤p) (h1:p≤100) (h2:-100≤n) (h3:n≤100):-100≤(numFl p n v).a∧(numFl p n v).a≤100∧-100≤(numFl p n v).n∧(numFl p n v).n≤100:=⟨h0,h1,h2,h3⟩
theorem insL_small (x:Ins):SmallL (insL x):=by
 intro y hy
 simp only [insL,List.mem_cons,List.not_mem_nil,or_false] at hy
 rcases hy with rfl | rfl | rfl | rfl | rfl<;>exact small_numF _ _ _ (by decide) (by decide) (by decide) (by decide)
theorem or_high (b:BitVec 64) (k:Nat) (v:Int) (p:Int) (hp:p=2 ^ k) (hb:u b < p) (h0:0≤v) (h1:v * p < 18446744073709551616):u (b||| BitVec.ofInt 64 v <<< k)=u b+v * p:=by
 subst hp
 obtain ⟨a,rfl⟩:∃ a:Nat,v=(a:Int):=⟨v.toNat,by omega⟩
 have hk:(0:Int) < 2 ^ k:=Int.pow_pos (by decide)
 have hpk:((2:Int) ^ k)=((2 ^ k:Nat):Int):=(Int.natCast_pow 2 k).symm
 have ha:(a:Int) < 18446744073709551616:=by
  have:(a:Int) * 1≤(a:Int) * 2 ^ k:=Int.mul_le_mul_of_nonneg_left (by omega) (by omega)
  omega
 have h2:a * 2 ^ k < 18446744073709551616:=by
  rw [hpk] at h1
  have h3:((a * 2 ^ k:Nat):Int) < 18446744073709551616:=by rw [Int.natCast_mul];exact h1
  omega
 have hc:(BitVec.ofInt 64 (a:Int) <<< k).toNat=a * 2 ^ k:=by
  rw [BitVec.toNat_shiftLeft,ofInt_u64 a (by omega),Nat.shiftLeft_eq]
  exact Nat.mod_eq_of_lt h2
 have hb':b.toNat < 2 ^ k:=by
  unfold u at hb
  rw [hpk] at hb
  exact Int.ofNat_lt.1 hb
 unfold u
 rw [BitVec.toNat_or,hc,Nat.or_comm,nat_join k (a * 2 ^ k) b.toNat (Nat.mul_mod_left _ _) hb',hpk,← Int.natCast_mul]
 omega
theorem insL_word (x:Ins) (h:mayI x=true):u (joinL (insL x)).2.1=wordI x:=by
 have hj:(joinL (insL x)).2.1=0#64||| bitF (numFl 0 12 (x.i % 4096))||| bitF (numFl 18 3 x.m)||| bitF (numFl 21 3 x.n)||| bitF (numFl 24 3 x.d)||| bitF (numFl 27 5 x.op):=by
  unfold joinL layR
  rw [if_pos (fun i hi=>by rw [nth_get (List.getElem?_eq_getElem hi)];exact insL_ok x h _ (List.getElem_mem hi))]
  show (layFrom (nth (insL x)) 5 0 0#64 0#64).2.1=_
  rw [layFrom_yes (by simp),layFrom_yes ?_,layFrom_yes ?_,layFrom_yes ?_,layFrom_yes ?_,layFrom_done]
  ·rfl
  ·show (0#64||| mskF (numFl 0 12 (x.i % 4096))||| mskF (numFl 18 3 x.m)||| mskF (numFl 21 3 x.n)||| mskF (numFl 24 3 x.d))&&& mskF (numFl 27 5 x.op)=0#64
   unfold mskF numFl
   simp only
   decide
  ·show (0#64||| mskF (numFl 0 12 (x.i % 4096))||| mskF (numFl 18 3 x.m)||| mskF (numFl 21 3 x.n))&&& mskF (numFl 24 3 x.d)=0#64
   unfold mskF numFl
   simp only
   decide
  ·show (0#64||| mskF (numFl 0 12 (x.i % 4096))||| mskF (numFl 18 3 x.m))&&& mskF (numFl 21 3 x.n)=0#64
   unfold mskF numFl
   simp only
   decide
  ·show (0#64||| mskF (numFl 0 12 (x.i % 4096)))&&& mskF (numFl 18 3 x.m)=0#64
   unfold mskF numFl
   simp only
   decide
 obtain ⟨⟨a0,a1⟩,⟨b0,b1⟩,⟨c0,c1⟩,⟨d0,d1⟩,⟨e0,e1⟩,_⟩:=mayI_iff.1 h
 rw [hj]
 have e1:u (0#64||| bitF (numFl 0 12 (x.i % 4096)))=x.i % 4096:=by
  have:u (0#64||| bitF (numFl 0 12 (x.i % 4096)))=_:=or_high 0#64 0 (x.i % 4096) 1 (by decide) (by decide) (by omega) (by omega)
  rw [this,show u 0#64=0 from by decide];omega
 have e2:u (0#64||| bitF (numFl 0 12 (x.i % 4096))||| bitF (numFl 18 3 x.m))=x.i % 4096+x.m * 262144:=by
  have:u ((0#64||| bitF (numFl 0 12 (x.i % 4096)))||| bitF (numFl 18 3 x.m))=_:=or_high _ 18 x.m 262144 (by decide) (by rw [e1];omega) (by omega) (by omega)
  rw [this,e1]
 have e3:u (0#64||| bitF (numFl 0 12 (x.i % 4096))||| bitF (numFl 18 3 x.m)||| bitF (numFl 21 3 x.n))=x.i % 4096+x.m * 262144+x.n * 2097152:=by
  have:u ((0#64||| bitF (numFl 0 12 (x.i % 4096))||| bitF (numFl 18 3 x.m))||| bitF (numFl 21 3 x.n))=_:=or_high _ 21 x.n 2097152 (by decide) (by rw [e2];omega) (by omega) (by omega)
  rw [this,e2]
 have e4:u (0#64||| bitF (numFl 0 12 (x.i % 4096))||| bitF (numFl 18 3 x.m)||| bitF (numFl 21 3 x.n)||| bitF (numFl 24 3 x.d))=x.i % 4096+x.m * 262144+x.n * 2097152+x.d * 16777216:=by
  have:u ((0#64||| bitF (numFl 0 12 (x.i % 4096))||| bitF (numFl 18 3 x.m)||| bitF (numFl 21 3 x.n))||| bitF (numFl 24 3 x.d))=_:=or_high _ 24 x.d 16777216 (by decide) (by rw [e3];omega) (by omega) (by omega)
  rw [this,e3]
 have e5:u (0#64||| bitF (numFl 0 12 (x.i % 4096))||| bitF (numFl 18 3 x.m)||| bitF (numFl 21 3 x.n)||| bitF (numFl 24 3 x.d)||| bitF (numFl 27 5 x.op))=_:=or_high _ 27 x.op 134217728 (by decide) (by rw [e4];omega) (by omega) (by omega)
 rw [e5,e4]
 unfold wordI
 omega
theorem mod_msk (x:BitVec 64) (n:Nat) (hn:n≤12):u (x&&& msk n)=u x % 2 ^ n:=by
 have hm:(msk n).toNat=2 ^ n - 1:=by
  have:=msk_nat n (by omega) (by omega)
  simpa using this
 unfold u
 rw [BitVec.toNat_and,hm,Nat.and_two_pow_sub_one_eq_mod]
 norm_cast
theorem got32 (v:Int) (a n:Nat) (h0:0≤v) (h1:v≤4294967295) (hn:n≤12):u (BitVec.ofInt 64 v >>> a&&& msk n)=v / 2 ^ a % 2 ^ n:=by
 rw [mod_msk _ n hn,← u_shr,u_int h0 (by omega)]
theorem got32_27 (v:Int) (h0:0≤v) (h1:v≤4294967295):u (BitVec.ofInt 64 v >>> (27:Int).toNat&&& msk 5)=v / 134217728:=by
 have:u (BitVec.ofInt 64 v >>> 27&&& msk (5:Nat))=v / 2 ^ 27 % 2 ^ 5:=got32 v 27 5 h0 h1 (by decide)
 exact this.trans (by omega)
theorem got32_3 (v:Int) (a:Nat) (p:Int) (hp:p=2 ^ a) (h0:0≤v) (h1:v≤4294967295):u (BitVec.ofInt 64 v >>> a&&& msk 3)=v / p % 8:=by
 subst hp
 exact got32 v a 3 h0 h1 (by decide)
theorem low12 (i:Int):BitVec.ofInt 64 i >>> (0:Int).toNat&&& msk 12=BitVec.ofInt 64 (i % 4096):=by
 apply u_inj.1
 have h1:u (BitVec.ofInt 64 i >>> 0&&& msk (12:Nat))=u (BitVec.ofInt 64 i >>> 0) % 2 ^ 12:=mod_msk _ 12 (by decide)
 rw [show BitVec.ofInt 64 i >>> 0=BitVec.ofInt 64 i from by simp,← u_conv,IntKind.wrap_u64] at h1
 refine h1.trans ?_
 rw [u_int (by omega) (by omega)]
 omega
def sgn (v:BitVec 64) (n:Int):BitVec 64:=(v <<< (64 - n).toNat).sshiftRight (64 - n).toNat
theorem sgn12 (n:Int) (h0:0≤n) (h1:n < 4096):wrap64 (u (sgn (BitVec.ofInt 64 n) 12))=sg12 n:=by
 rw [u_signed]
 unfold sgn
 rw [show (64 - (12:Int)).toNat=52 from by decide,BitVec.toInt_sshiftRight,BitVec.toInt_eq_toNat_cond,BitVec.toNat_shiftLeft,Nat.shiftLeft_eq,Int.shiftRight_eq_div_pow]
 have h2:(BitVec.ofInt 64 n).toNat=n.toNat:=by
  have:=u_int h0 (show n < 9223372036854775808 by omega)
  unfold u at this
  omega
 rw [h2,Nat.mod_eq_of_lt (show n.toNat * 2 ^ 52 < 2 ^ 64 by omega)]
 unfold sg12
 split<;>split<;>omega
end
end Go.Proofs.YtlgpdbgingjpbaaGreat
