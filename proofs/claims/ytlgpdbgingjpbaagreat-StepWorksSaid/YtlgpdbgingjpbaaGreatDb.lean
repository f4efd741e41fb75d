/- Descriptors,plainly: which may be,their words,and what a word is. Blocks of cells;small lemmas that several layers use. Small contracts that later stages use too: a number within a bound;cells that stay. The reference's small functions that several layers use: Num,Page,bit,set,Get. What a call leaves alone that writes one block of its caller's. Registers,plainly;'==' of them. Contracts of the small functions of package desc and of its reference. Whether an entry may be: contracts. -/
import Derived.Test.YtlgpdbgingjpbaaGreatLy
import Derived.Laws.StructEq
import Derived.IntWalk
import Derived.Deep.CutBlock
import Derived.ProofKit
import Derived.OpenShut
import Derived.Test.YtlgpdbgingjpbaaGreatLt
set_option linter.all false
namespace Go.Proofs.YtlgpdbgingjpbaaGreat
section
open Go.ChangeShapes Go.WideShapes Go.ChangeAt Go.RowKit Go.Deep
structure Dsc where
 k:Int
 f:Int
 r:Bool
 w:Bool
 x:Bool
 a:Bool
 n:Bool
 s:Int
 o:Int
deriving DecidableEq
def dz:Dsc:=⟨0,0,false,false,false,false,false,0,0⟩
def eqD (a b:Dsc):Bool:=decide (a=b)
theorem eqD_iff {a b:Dsc}:eqD a b=true↔a=b:=by simp [eqD]
def numB (n m:Int):Bool:=decide (0≤n∧n≤m)
def placeB (st lv:Int):Bool:=decide ((st=1∨st=2)∧0≤lv∧lv≤3)
theorem numB_iff {n m:Int}:numB n m=true↔0≤n∧n≤m:=by simp [numB]
theorem numB_no {n m:Int}:numB n m=false↔¬ (0≤n∧n≤m):=by simp [numB]
theorem placeB_iff {st lv:Int}:placeB st lv=true↔(st=1∨st=2)∧0≤lv∧lv≤3:=by simp [placeB]
theorem placeB_no {st lv:Int}:placeB st lv=false↔¬ ((st=1∨st=2)∧0≤lv∧lv≤3):=by simp [placeB]
def cov (lv:Int):Int:=if lv=0 then 512 else if lv=1 then 64 else if lv=2 then 8 else 1
theorem cov_pos (lv:Int):1≤cov lv∧cov lv≤512:=by unfold cov;split<;>(try split)<;>(try split)<;>omega
def noneD (st:Int) (d:Dsc):Bool:=eqD d ⟨0,0,false,false,false,false,false,0,d.o⟩&&(decide (d.o=0)||(decide (st=2)&&numB d.o 15))
def tableD (lv:Int) (d:Dsc):Bool:=eqD d ⟨1,d.f,false,false,false,false,false,0,0⟩&&(decide (lv≠3)&&numB d.f 4095)
def attrD (st:Int) (d:Dsc):Bool:=if st=1 then d.r&&decide (d.s=0) else !d.n&&numB d.s 15
def leafD (st lv:Int) (d:Dsc):Bool:=decide (lv≠0)&&(decide (d.o=0)&&(numB d.f 4095&&(decide (d.f.tmod (cov lv)=0)&&attrD st d)))
def mayD (st lv:Int) (d:Dsc):Bool:=if d.k=0 then noneD st d else if d.k=1 then tableD lv d else if d.k=2 then leafD st lv d else false
def mayE (st lv:Int) (d:Dsc):Bool:=placeB st lv&&mayD st lv d
def bitFl (at':Int) (b:Bool):Fld:=⟨at',1,if b then 1#64 else 0#64⟩
def numFl (at' n v:Int):Fld:=⟨at',n,BitVec.ofInt 64 v⟩
def headL (lv:Int) (d:Dsc):List Fld:=[bitFl 0 true,bitFl 1 (!decide (d.k=2)||decide (lv=3)),numFl 12 12 d.f]
def baseL (d:Dsc):List Fld:=[bitFl 10 d.a,bitFl 54 (!d.x)]
def oneL (d:Dsc):List Fld:=[bitFl 7 (!d.w),bitFl 11 d.n]
def twoL (d:Dsc):List Fld:=[bitFl 6 d.r,bitFl 7 d.w,numFl 55 4 d.s]
def attrL (st:Int) (d:Dsc):List Fld:=if st=1 then baseL d++oneL d else baseL d++twoL d
def fieldsL (st lv:Int) (d:Dsc):List Fld:=if d.k=0 then [numFl 4 4 d.o] else if d.k=2 then headL lv d++attrL st d else headL lv d
def nth (L:List Fld) (j:Nat):Fld:=L.getD j default
def joinL (L:List Fld):BitVec 64×BitVec 64×Int:=layR (nth L) L.length
def wordD (st lv:Int) (d:Dsc):BitVec 64:=(joinL (fieldsL st lv d)).2.1
def getN (v:BitVec 64) (a n:Int):Int:=u (v >>> a.toNat&&& msk n)
def flagW (v:BitVec 64) (a:Int):Bool:=decide (getN v a 1=1)
def kindD (lv:Int) (v:BitVec 64):Int:=if flagW v 0=false then 0 else if flagW v 1=true∧lv≠3 then 1 else 2
def readD (st lv:Int) (v:BitVec 64):Dsc:=
 if kindD lv v=0 then ⟨0,0,false,false,false,false,false,0,getN v 4 4⟩
 else if kindD lv v=1 then ⟨1,getN v 12 12,false,false,false,false,false,0,0⟩
 else if st=1 then ⟨2,getN v 12 12,true,!flagW v 7,!flagW v 54,flagW v 10,flagW v 11,0,0⟩
 else ⟨2,getN v 12 12,flagW v 6,flagW v 7,!flagW v 54,flagW v 10,false,getN v 55 4,0⟩
def ofD (st lv:Int) (v:BitVec 64):Dsc:=if mayD st lv (readD st lv v)=true∧wordD st lv (readD st lv v)=v then readD st lv v else dz
theorem nth_get {L:List Fld} {j:Nat} {x:Fld} (h:L[j]?=some x):nth L j=x:=by
 unfold nth;rw [List.getD_eq_getElem?_getD,h];rfl
theorem u_int {v:Int} (h0:0≤v) (h1:v < 9223372036854775808):u (BitVec.ofInt 64 v)=v:=by
 unfold u
 rw [BitVec.toNat_ofInt]
 have:v % ((2 ^ 64:Nat):Int)=v:=Int.emod_eq_of_lt h0 (by omega)
 rw [this];omega
theorem u_conv (v:Int):IntKind.u64.wrap v=u (BitVec.ofInt 64 v):=by
 unfold u
 rw [BitVec.toNat_ofInt,IntKind.wrap_u64]
 have:=Int.emod_nonneg v (show (18446744073709551616:Int)≠0 from by decide)
 show v % 18446744073709551616=((v % 18446744073709551616).toNat:Int)
 omega
theorem ok_num (p n v:Int) (h0:0≤p) (hn:1≤n) (h1:p+n≤64) (h2:0≤v) (h3:v < 4096) (h4:v≤u (msk n)):okF (numFl p n v)=true:=by
 unfold okF numFl okB
 simp only [Bool.and_eq_true,decide_eq_true_eq]
 refine ⟨by omega,?_⟩
 rw [u_int h2 (by omega)];exact h4
theorem of_cases (st lv:Int) (v:BitVec 64):ofD st lv v=dz∨(mayD st lv (ofD st lv v)=true∧wordD st lv (ofD st lv v)=v):=by
 unfold ofD
 split
 ·rename_i h;exact .inr h
 ·exact .inl rfl
end
section
open Go.ChangeShapes Go.WideShapes Go.ChangeAt Go.RowKit Go.Deep
structure BoxAt (w:World) (b:Nat) (cs:Array Value) (t:TypeId):Prop where
 h:w.heap[b]?=some (.cells cs t)
theorem BoxAt.lt {w:World} {b:Nat} {cs:Array Value} {t:TypeId} (h:BoxAt w b cs t):b < w.heap.size:=(Array.getElem?_eq_some_iff.1 h.h).1
theorem BoxAt.below {w w':World} {b:Nat} {cs:Array Value} {t:TypeId} (h:BoxAt w b cs t) (hb:Below w.heap.size w w'):BoxAt w' b cs t:=⟨(hb.block b h.lt).trans h.h⟩
theorem BoxAt.alloc {w:World} {b:Nat} {cs:Array Value} {t:TypeId} (h:BoxAt w b cs t) (o:Obj):BoxAt (w.alloc o) b cs t:=⟨(Below.heap_alloc w o b h.lt).trans h.h⟩
theorem BoxAt.drew {w:World} {b:Nat} {cs:Array Value} {t:TypeId} (h:BoxAt w b cs t):BoxAt w.drew b cs t:=⟨h.h⟩
theorem BoxAt.new (w:World) (cs:Array Value) (t:TypeId):BoxAt (w.alloc (.cells cs t)) w.heap.size cs t:=⟨heap_alloc_new w _⟩
theorem BoxAt.cell {w:World} {b:Nat} {cs:Array Value} {t:TypeId} (h:BoxAt w b cs t) (i:Nat):w.cell? ⟨b,i,none⟩=cs[i]?:=by
 unfold World.cell?
 rw [h.h]
 rfl
theorem BoxAt.free {w:World} {b:Nat} {cs:Array Value} {t:TypeId} (h:BoxAt w b cs t) (i:Nat):w.frozen? ⟨b,i,none⟩=false:=by
 unfold World.frozen?
 rw [h.h]
 simp
theorem BoxAt.get {w:World} {b:Nat} {cs:Array Value} {t:TypeId} (h:BoxAt w b cs t) (i:Nat) (v:Value) (hv:cs[i]?=some v):w.cell? ⟨b,i,none⟩=some v:=(h.cell i).trans hv
theorem BoxAt.set {w:World} {b:Nat} {cs:Array Value} {t:TypeId} (h:BoxAt w b cs t) (i:Nat) (v:Value) (cs':Array Value) (hc:cs.setIfInBounds i v=cs'):BoxAt (w.setCell ⟨b,i,none⟩ v) b cs' t:=by
 refine ⟨?_⟩
 unfold World.setCell
 simp only [Array.getElem?_modify,h.h,Option.map_some,if_true]
 simp [hc]
theorem BoxAt.other {w:World} {b:Nat} {cs:Array Value} {t:TypeId} (h:BoxAt w b cs t) (p:Addr) (v:Value) (hne:b≠p.block):BoxAt (w.setCell p v) b cs t:=
 ⟨(Below.heap_setCell w p v b hne).trans h.h⟩
theorem same {f:Nat} {l:Array Value} {w:World} {v:Ending} (h:Calls Tryz.prog f l w fun e w'=>e=v∧w=w'):Calls Tryz.prog f l w fun e w'=>e=v∧w'=w:=
 h.mono fun _ _ h=>⟨h.1,h.2.symm⟩
theorem beq_int (m j:Int):(m==j)=decide (m=j):=by rw [Bool.eq_iff_iff];simp
theorem small_bit (p:Int) (b:Bool) (h0:-100≤p) (h1:p≤100):-100≤(bitFl p b).a∧(bitFl p b).a≤100∧-100≤(bitFl p b).n∧(bitFl p b).n≤100:=
 ⟨h0,h1,show (-100:Int)≤1 from by decide,show (1:Int)≤100 from by decide⟩
theorem small_num (p m v:Int) (h0:-100≤p) (h1:p≤100) (h2:-100≤m) (h3:m≤100):-100≤(numFl p m v).a∧(numFl p m v).a≤100∧-100≤(numFl p m v).n∧(numFl p m v).n≤100:=
 ⟨h0,h1,h2,h3⟩
theorem getN_bd (v:BitVec 64) (p m:Int) (h0:0≤m) (h1:m≤12):0≤getN v p m∧getN v p m≤4095:=by
 refine ⟨u_lo _,?_⟩
 unfold getN u
 rw [BitVec.toNat_and,msk_nat m h0 (by omega)]
 have h2:(v >>> p.toNat).toNat&&& (2 ^ m.toNat - 1)≤2 ^ m.toNat - 1:=Nat.and_le_right
 have h3:2 ^ m.toNat≤2 ^ 12:=Nat.pow_le_pow_right (by omega) (by omega)
 have h4:(2:Nat) ^ 12=4096:=by decide
 omega
section
variable {H:Type} {enc:TypeId×Value→H} {w:World} {base:Nat} {held:Bool}
end
end
section
open Go.ChangeShapes Go.WideShapes Go.ChangeAt Go.RowKit
theorem keepc {w w':World} (hb:Below w.heap.size w w') {b o:Nat} {x:Value} (hc:w.cell? ⟨b,o,none⟩=some x):w'.cell? ⟨b,o,none⟩=some x:=
 (hb.cell (p:=⟨b,o,none⟩) (cell_block hc)).trans hc
end
section
open Go.ChangeShapes Go.WideShapes Go.ChangeAt Go.RowKit Go.Deep
theorem num_any (p m:Int) (w:World) :
  Calls Tryz.prog 41 #[.int .i64 p,.int .i64 m] w fun e w'=>e=.returned (.bool (numB p m))∧w=w':=by
 go_enter Tryz.func41,Tryz.ntmps41
 go_wp2
 all_goals
  go_ret
  refine ⟨ret_bool ?_,rfl⟩
  unfold numB
  rw [Bool.eq_iff_iff]
  simp
  omega
end
section
open Go.ChangeShapes Go.WideShapes Go.ChangeAt Go.RowKit Go.Deep
structure Kept (tb B:Nat) (w w':World):Prop where
 below:Below tb w w'
 block:∀ k,k < B→k≠tb→w'.heap[k]?=w.heap[k]?
theorem Kept.of {tb B:Nat} {w w':World} (h:Below B w w') (hb:tb≤B):Kept tb B w w':=⟨h.mono hb,fun k hk _=>h.block k hk⟩
theorem Kept.trans {tb B:Nat} {a b c:World} (h:Kept tb B a b) (k:Kept tb B b c):Kept tb B a c:=
 ⟨h.below.trans k.below,fun i hi hn=>(k.block i hi hn).trans (h.block i hi hn)⟩
theorem Kept.mono {tb B B':Nat} {a b:World} (h:Kept tb B a b) (hb:B'≤B):Kept tb B' a b:=⟨h.below,fun i hi hn=>h.block i (by omega) hn⟩
theorem Kept.set {tb B:Nat} {a b:World} (h:Kept tb B a b) (o:Nat) (v:Value):Kept tb B a (b.setCell ⟨tb,o,none⟩ v):=
 ⟨h.below.setCell (Nat.le_refl _) v,fun i hi hn=>(Below.heap_setCell b ⟨tb,o,none⟩ v i hn).trans (h.block i hi hn)⟩
theorem Kept.box {tb B:Nat} {a b:World} (h:Kept tb B a b) {k:Nat} {cs:Array Value} {t:TypeId} (hx:BoxAt a k cs t) (hk:k < B) (hn:k≠tb):BoxAt b k cs t:=⟨(h.block k hk hn).trans hx.h⟩
theorem Kept.under {tb B b0:Nat} {w0 a b:World} (h:Kept tb B a b) (hx:Below b0 w0 a) (hb:b0≤tb):Below b0 w0 b:=hx.trans (h.below.mono hb)
end
section
open Go.ChangeShapes Go.WideShapes Go.ChangeAt Go.RowKit Go.Deep
structure Rg where
 x0:BitVec 64
 x1:BitVec 64
 x2:BitVec 64
 x3:BitVec 64
 x4:BitVec 64
 x5:BitVec 64
 x6:BitVec 64
 x7:BitVec 64
 pc:BitVec 64
 tt:BitVec 64
 sc:BitVec 64
 vb:BitVec 64
 el:BitVec 64
 es:BitVec 64
 fa:BitVec 64
deriving DecidableEq
def regV (r:Rg):Value:=.agg #[.int .u64 (u r.x0),.int .u64 (u r.x1),.int .u64 (u r.x2),.int .u64 (u r.x3),.int .u64 (u r.x4),.int .u64 (u r.x5),.int .u64 (u r.x6),.int .u64 (u r.x7),.int .u64 (u r.pc),.int .u64 (u r.tt),.int .u64 (u r.sc),.int .u64 (u r.vb),.int .u64 (u r.el),.int .u64 (u r.es),.int .u64 (u r.fa)]
def eqRg (a b:Rg):Bool:=decide (a=b)
@[go_sem] theorem eqRg_self (a:Rg):eqRg a a=true:=by simp [eqRg]
set_option maxRecDepth 100000 in
@[go_sem high] theorem eq_arr8 (a0 a1 a2 a3 a4 a5 a6 a7 b0 b1 b2 b3 b4 b5 b6 b7:BitVec 64) (d:Nat) (w:World) :
  (Op.equalIn (d+2) 26 (.agg #[.int .u64 (u a0),.int .u64 (u a1),.int .u64 (u a2),.int .u64 (u a3),.int .u64 (u a4),.int .u64 (u a5),.int .u64 (u a6),.int .u64 (u a7)]) (.agg #[.int .u64 (u b0),.int .u64 (u b1),.int .u64 (u b2),.int .u64 (u b3),.int .u64 (u b4),.int .u64 (u b5),.int .u64 (u b6),.int .u64 (u b7)])).run Tryz.prog w=.ok (decide (a0=b0∧a1=b1∧a2=b2∧a3=b3∧a4=b4∧a5=b5∧a6=b6∧a7=b7)) w:=by
 rw [Op.equalIn]
 simp only [Sem.run_bind,run_underlying Tryz.underlying26,Result.andThen_ok]
 simp [go_sem,List.range']
 simp only [u_inj]
 by_cases h0:a0=b0
 rotate_left
 ·simp [h0]
 by_cases h1:a1=b1
 rotate_left
 ·simp [h0,h1]
 by_cases h2:a2=b2
 rotate_left
 ·simp [h0,h1,h2]
 by_cases h3:a3=b3
 rotate_left
 ·simp [h0,h1,h2,h3]
 by_cases h4:a4=b4
 rotate_left
 ·simp [h0,h1,h2,h3,h4]
 by_cases h5:a5=b5
 rotate_left
 ·simp [h0,h1,h2,h3,h4,h5]
 by_cases h6:a6=b6
 rotate_left
 ·simp [h0,h1,h2,h3,h4,h5,h6]
 by_cases h7:a7=b7
 rotate_left
 ·simp [h0,h1,h2,h3,h4,h5,h6,h7]
 simp [h0,h1,h2,h3,h4,h5,h6,h7]
set_option maxHeartbeats 3200000 in
set_option maxRecDepth 100000 in
theorem eq_regs (x0 x1 x2 x3 x4 x5 x6 x7 pc tt sc vb el es fa:BitVec 64) (x0' x1' x2' x3' x4' x5' x6' x7' pc' tt' sc' vb' el' es' fa':BitVec 64) (w:World) :
  (Op.equalIn 10000 30 (.agg #[.int .u64 (u x0),.int .u64 (u x1),.int .u64 (u x2),.int .u64 (u x3),.int .u64 (u x4),.int .u64 (u x5),.int .u64 (u x6),.int .u64 (u x7),.int .u64 (u pc),.int .u64 (u tt),.int .u64 (u sc),.int .u64 (u vb),.int .u64 (u el),.int .u64 (u es),.int .u64 (u fa)]) (.agg #[.int .u64 (u x0'),.int .u64 (u x1'),.int .u64 (u x2'),.int .u64 (u x3'),.int .u64 (u x4'),.int .u64 (u x5'),.int .u64 (u x6'),.int .u64 (u x7'),.int .u64 (u pc'),.int .u64 (u tt'),.int .u64 (u sc'),.int .u64 (u vb'),.int .u64 (u el'),.int .u64 (u es'),.int .u64 (u fa')])).run Tryz.prog w=.ok (eqRg (⟨x0,x1,x2,x3,x4,x5,x6,x7,pc,tt,sc,vb,el,es,fa⟩:Rg) (⟨x0',x1',x2',x3',x4',x5',x6',x7',pc',tt',sc',vb',el',es',fa'⟩:Rg)) w:=by
 rw [run_equalIn_agg w 9999 _ _ _ (by kernel_rfl) (by kernel_rfl)]
 simp only [Program.fieldsOf,Tryz.underlying30]
 simp [go_sem,eqRg]
 by_cases h0:x0=x0'
 rotate_left
 ·simp [h0,u_inj]
 by_cases h1:x1=x1'
 rotate_left
 ·simp [h0,h1,u_inj]
 by_cases h2:x2=x2'
 rotate_left
 ·simp [h0,h1,h2,u_inj]
 by_cases h3:x3=x3'
 rotate_left
 ·simp [h0,h1,h2,h3,u_inj]
 by_cases h4:x4=x4'
 rotate_left
 ·simp [h0,h1,h2,h3,h4,u_inj]
 by_cases h5:x5=x5'
 rotate_left
 ·simp [h0,h1,h2,h3,h4,h5,u_inj]
 by_cases h6:x6=x6'
 rotate_left
 ·simp [h0,h1,h2,h3,h4,h5,h6,u_inj]
 by_cases h7:x7=x7'
 rotate_left
 ·simp [h0,h1,h2,h3,h4,h5,h6,h7,u_inj]
 by_cases h8:pc=pc'
 rotate_left
 ·simp [h0,h1,h2,h3,h4,h5,h6,h7,h8,u_inj]
 by_cases h9:tt=tt'
 rotate_left
 ·simp [h0,h1,h2,h3,h4,h5,h6,h7,h8,h9,u_inj]
 by_cases h10:sc=sc'
 rotate_left
 ·simp [h0,h1,h2,h3,h4,h5,h6,h7,h8,h9,h10,u_inj]
 by_cases h11:vb=vb'
 rotate_left
 ·simp [h0,h1,h2,h3,h4,h5,h6,h7,h8,h9,h10,h11,u_inj]
 by_cases h12:el=el'
 rotate_left
 ·simp [h0,h1,h2,h3,h4,h5,h6,h7,h8,h9,h10,h11,h12,u_inj]
 by_cases h13:es=es'
 rotate_left
 ·simp [h0,h1,h2,h3,h4,h5,h6,h7,h8,h9,h10,h11,h12,h13,u_inj]
 by_cases h14:fa=fa'
 rotate_left
 ·simp [h0,h1,h2,h3,h4,h5,h6,h7,h8,h9,h10,h11,h12,h13,h14,u_inj]
 simp [h0,h1,h2,h3,h4,h5,h6,h7,h8,h9,h10,h11,h12,h13,h14,u_inj]
@[go_sem high] theorem eql_regs (x0 x1 x2 x3 x4 x5 x6 x7 pc tt sc vb el es fa:BitVec 64) (x0' x1' x2' x3' x4' x5' x6' x7' pc' tt' sc' vb' el' es' fa':BitVec 64) (w:World) :
  (binOp .eql 30 (.agg #[.int .u64 (u x0),.int .u64 (u x1),.int .u64 (u x2),.int .u64 (u x3),.int .u64 (u x4),.int .u64 (u x5),.int .u64 (u x6),.int .u64 (u x7),.int .u64 (u pc),.int .u64 (u tt),.int .u64 (u sc),.int .u64 (u vb),.int .u64 (u el),.int .u64 (u es),.int .u64 (u fa)]) (.agg #[.int .u64 (u x0'),.int .u64 (u x1'),.int .u64 (u x2'),.int .u64 (u x3'),.int .u64 (u x4'),.int .u64 (u x5'),.int .u64 (u x6'),.int .u64 (u x7'),.int .u64 (u pc'),.int .u64 (u tt'),.int .u64 (u sc'),.int .u64 (u vb'),.int .u64 (u el'),.int .u64 (u es'),.int .u64 (u fa')])).run Tryz.prog w=.ok (.bool (eqRg (⟨x0,x1,x2,x3,x4,x5,x6,x7,pc,tt,sc,vb,el,es,fa⟩:Rg) (⟨x0',x1',x2',x3',x4',x5',x6',x7',pc',tt',sc',vb',el',es',fa'⟩:Rg))) w:=by
 rw [run_eql_struct,eq_regs];rfl
@[go_sem high] theorem neq_regs (x0 x1 x2 x3 x4 x5 x6 x7 pc tt sc vb el es fa:BitVec 64) (x0' x1' x2' x3' x4' x5' x6' x7' pc' tt' sc' vb' el' es' fa':BitVec 64) (w:World) :
  (binOp .neq 30 (.agg #[.int .u64 (u x0),.int .u64 (u x1),.int .u64 (u x2),.int .u64 (u x3),.int .u64 (u x4),.int .u64 (u x5),.int .u64 (u x6),.int .u64 (u x7),.int .u64 (u pc),.int .u64 (u tt),.int .u64 (u sc),.int .u64 (u vb),.int .u64 (u el),.int .u64 (u es),.int .u64 (u fa)]) (.agg #[.int .u64 (u x0'),.int .u64 (u x1'),.int .u64 (u x2'),.int .u64 (u x3'),.int .u64 (u x4'),.int .u64 (u x5'),.int .u64 (u x6'),.int .u64 (u x7'),.int .u64 (u pc'),.int .u64 (u tt'),.int .u64 (u sc'),.int .u64 (u vb'),.int .u64 (u el'),.int .u64 (u es'),.int .u64 (u fa')])).run Tryz.prog w=.ok (.bool (!eqRg (⟨x0,x1,x2,x3,x4,x5,x6,x7,pc,tt,sc,vb,el,es,fa⟩:Rg) (⟨x0',x1',x2',x3',x4',x5',x6',x7',pc',tt',sc',vb',el',es',fa'⟩:Rg))) w:=by
 rw [run_neq_struct,eq_regs];rfl
end
section
open Go.ChangeShapes Go.WideShapes Go.ChangeAt Go.RowKit Go.Deep
theorem eq_desc (k f:Int) (r wr x a n:Bool) (s o:Int) (k' f':Int) (r' wr' x' a' n':Bool) (s' o':Int) (w:World) :
  (Op.equalIn 10000 243 (.agg #[.int .i64 k,.int .i64 f,.bool r,.bool wr,.bool x,.bool a,.bool n,.int .i64 s,.int .i64 o]) (.agg #[.int .i64 k',.int .i64 f',.bool r',.bool wr',.bool x',.bool a',.bool n',.int .i64 s',.int .i64 o'])).run Tryz.prog w=.ok (eqD (Dsc.mk k f r wr x a n s o) (Dsc.mk k' f' r' wr' x' a' n' s' o')) w:=by
 rw [run_equalIn_agg w 9999 _ _ _ (by kernel_rfl) (by kernel_rfl)]
 simp only [Program.fieldsOf,Tryz.underlying243]
 simp [go_sem,eqD]
 by_cases h1:k=k'
 rotate_left
 ·simp [h1]
 by_cases h2:f=f'
 rotate_left
 ·simp [h1,h2]
 by_cases h3:r=r'
 rotate_left
 ·simp [h1,h2,h3]
 by_cases h4:wr=wr'
 rotate_left
 ·simp [h1,h2,h3,h4]
 by_cases h5:x=x'
 rotate_left
 ·simp [h1,h2,h3,h4,h5]
 by_cases h6:a=a'
 rotate_left
 ·simp [h1,h2,h3,h4,h5,h6]
 by_cases h7:n=n'
 rotate_left
 ·simp [h1,h2,h3,h4,h5,h6,h7]
 by_cases h8:s=s'
 rotate_left
 ·simp [h1,h2,h3,h4,h5,h6,h7,h8]
 by_cases h9:o=o'
 rotate_left
 ·simp [h1,h2,h3,h4,h5,h6,h7,h8,h9]
 simp [h1,h2,h3,h4,h5,h6,h7,h8,h9]
@[go_sem high] theorem eql_desc (k f:Int) (r wr x a n:Bool) (s o:Int) (k' f':Int) (r' wr' x' a' n':Bool) (s' o':Int) (w:World) :
  (binOp .eql 243 (.agg #[.int .i64 k,.int .i64 f,.bool r,.bool wr,.bool x,.bool a,.bool n,.int .i64 s,.int .i64 o]) (.agg #[.int .i64 k',.int .i64 f',.bool r',.bool wr',.bool x',.bool a',.bool n',.int .i64 s',.int .i64 o'])).run Tryz.prog w=.ok (.bool (eqD (Dsc.mk k f r wr x a n s o) (Dsc.mk k' f' r' wr' x' a' n' s' o'))) w:=by
 rw [run_eql_struct,eq_desc];rfl
@[go_sem high] theorem neq_desc (k f:Int) (r wr x a n:Bool) (s o:Int) (k' f':Int) (r' wr' x' a' n':Bool) (s' o':Int) (w:World) :
  (binOp .neq 243 (.agg #[.int .i64 k,.int .i64 f,.bool r,.bool wr,.bool x,.bool a,.bool n,.int .i64 s,.int .i64 o]) (.agg #[.int .i64 k',.int .i64 f',.bool r',.bool wr',.bool x',.bool a',.bool n',.int .i64 s',.int .i64 o'])).run Tryz.prog w=.ok (.bool (!eqD (Dsc.mk k f r wr x a n s o) (Dsc.mk k' f' r' wr' x' a' n' s' o'))) w:=by
 rw [run_neq_struct,eq_desc];rfl
theorem isLevel_any (lv:Int) (w:World) :
  Calls Tryz.prog 321 #[.int .i64 lv] w fun e w'=>e=.returned (.bool (numB lv 3))∧w=w':=by
 go_enter Tryz.func321,Tryz.ntmps321
 go_wp2
 all_goals
  go_ret
  refine ⟨ret_bool ?_,rfl⟩
  unfold numB
  rw [Bool.eq_iff_iff]
  simp
  omega
theorem isPage_any (p:Int) (w:World) :
  Calls Tryz.prog 322 #[.int .i64 p] w fun e w'=>e=.returned (.bool (numB p 4095))∧w=w':=by
 go_enter Tryz.func322,Tryz.ntmps322
 go_wp2
 all_goals
  go_ret
  refine ⟨ret_bool ?_,rfl⟩
  unfold numB
  rw [Bool.eq_iff_iff]
  simp
  omega
theorem isSmall_any (p:Int) (w:World) :
  Calls Tryz.prog 344 #[.int .i64 p] w fun e w'=>e=.returned (.bool (numB p 15))∧w=w':=by
 go_enter Tryz.func344,Tryz.ntmps344
 go_wp2
 all_goals
  go_ret
  refine ⟨ret_bool ?_,rfl⟩
  unfold numB
  rw [Bool.eq_iff_iff]
  simp
  omega
theorem spot_mayBe (st lv:Int) (w:World) :
  Calls Tryz.prog 324 #[.agg #[.int .i64 st,.int .i64 lv]] w fun e w'=>e=.returned (.bool (placeB st lv))∧w'=w.alloc (.cells #[.int .i64 st,.int .i64 lv] 376):=by
 have hp:placeB st lv=(decide (st=1∨st=2)&&numB lv 3):=by
  unfold placeB numB;rw [Bool.eq_iff_iff];simp
 have HP:=Lib.hid hp
 clear hp
 by_cases h1:st=1
 ·subst h1
  go_enter Tryz.func324,Tryz.ntmps324
  go_wp2_with (go_at_call 321;refine (isLevel_any _ _).mono ?_;rintro e w' ⟨rfl,rfl⟩)
  go_ret
  refine ⟨ret_bool ?_,rfl⟩
  rw [HP.out];simp
 ·have t1:(st==1)=false:=by simpa using h1
  by_cases h2:st=2
  ·subst h2
   go_enter Tryz.func324,Tryz.ntmps324
   go_wp2_with (go_at_call 321;refine (isLevel_any _ _).mono ?_;rintro e w' ⟨rfl,rfl⟩)
   go_ret
   refine ⟨ret_bool ?_,rfl⟩
   rw [HP.out];simp
  ·have t2:(st==2)=false:=by simpa using h2
   go_enter Tryz.func324,Tryz.ntmps324
   go_wp2
   go_ret
   refine ⟨ret_bool ?_,rfl⟩
   rw [HP.out];simp [h1,h2]
theorem below_any (lv:Int) (w:World) (h0:0≤lv) (h1:lv≤3) :
  Calls Tryz.prog 323 #[.int .i64 lv] w fun e w'=>e=.returned (.int .i64 (3 * (3 - lv)))∧w=w':=by
 go_enter Tryz.func323,Tryz.ntmps323
 go_wp2
 go_ret
 exact ⟨rfl,rfl⟩
theorem covers_any (lv:Int) (w:World) (h0:0≤lv) (h1:lv≤3) :
  Calls Tryz.prog 345 #[.int .i64 lv] w fun e w'=>e=.returned (.int .i64 (cov lv))∧w=w':=by
 have hc:lv=0∨lv=1∨lv=2∨lv=3:=by omega
 rcases hc with rfl | rfl | rfl | rfl
 all_goals
  go_enter Tryz.func345,Tryz.ntmps345
  go_wp2_with (go_at_call 323;refine (below_any _ _ (by decide) (by decide)).mono ?_;rintro e w' ⟨rfl,rfl⟩)
  go_ret
  exact ⟨rfl,rfl⟩
end
section
open Go.ChangeShapes Go.WideShapes Go.ChangeAt Go.RowKit Go.Deep
theorem entryOf_any (st lv:Int) (k f:Int) (r wr x a n:Bool) (s o:Int) (w:World) :
  Calls Tryz.prog 331 #[.int .i64 st,.int .i64 lv,.agg #[.int .i64 k,.int .i64 f,.bool r,.bool wr,.bool x,.bool a,.bool n,.int .i64 s,.int .i64 o]] w fun e w'=>e=.returned (.agg #[.int .i64 st,.int .i64 lv,.int .i64 k,.int .i64 f,.bool r,.bool wr,.bool x,.bool a,.bool n,.int .i64 s,.int .i64 o])∧w'=(w.alloc (.cells #[.int .i64 k,.int .i64 f,.bool r,.bool wr,.bool x,.bool a,.bool n,.int .i64 s,.int .i64 o] 243)).alloc (.cells #[.int .i64 st,.int .i64 lv,.int .i64 k,.int .i64 f,.bool r,.bool wr,.bool x,.bool a,.bool n,.int .i64 s,.int .i64 o] 378):=by
 go_enter Tryz.func331,Tryz.ntmps331
 go_wp2
 go_returns
 exact ⟨rfl,rfl⟩
theorem none_any (st lv:Int) (k f:Int) (r wr x a n:Bool) (s o:Int) (w:World) (hk:k=0) :
  Calls Tryz.prog 335 #[.agg #[.int .i64 st,.int .i64 lv,.int .i64 k,.int .i64 f,.bool r,.bool wr,.bool x,.bool a,.bool n,.int .i64 s,.int .i64 o]] w fun e w'=>e=.returned (.bool (noneD st (Dsc.mk k f r wr x a n s o)))∧Below w.heap.size w w':=by
 subst hk
 cases he:eqD (Dsc.mk 0 f r wr x a n s o) ⟨0,0,false,false,false,false,false,0,o⟩
 ·have hn:noneD st (Dsc.mk 0 f r wr x a n s o)=false:=by unfold noneD;simp only;rw [he];rfl
  have HN:=Lib.hid hn
  clear hn
  go_enter Tryz.func335,Tryz.ntmps335
  go_wp2
  go_ret
  rw [HN.out]
  exact ⟨rfl,by go_grown⟩
 ·have hn:noneD st (Dsc.mk 0 f r wr x a n s o)=(decide (o=0)||(decide (st=2)&&numB o 15)):=by unfold noneD;simp only;rw [he];rfl
  have HN:=Lib.hid hn
  clear hn
  by_cases h0:o=0
  ·subst h0
   go_enter Tryz.func335,Tryz.ntmps335
   go_wp2
   go_ret
   refine ⟨ret_bool ?_,by go_grown⟩
   rw [HN.out];rfl
  ·have t0:(o==0)=false:=by simpa using h0
   by_cases h2:st=2
   ·subst h2
    go_enter Tryz.func335,Tryz.ntmps335
    go_wp2_with (go_at_call 344;refine (isSmall_any _ _).mono ?_;rintro e w' ⟨rfl,rfl⟩)
    go_ret
    refine ⟨ret_bool ?_,by go_grown⟩
    rw [HN.out];simp [h0]
   ·have t2:(st==2)=false:=by simpa using h2
    go_enter Tryz.func335,Tryz.ntmps335
    go_wp2
    go_ret
    refine ⟨ret_bool ?_,by go_grown⟩
    rw [HN.out];simp [h0,h2]
theorem table_any (st lv:Int) (k f:Int) (r wr x a n:Bool) (s o:Int) (w:World) (hk:k=1) :
  Calls Tryz.prog 336 #[.agg #[.int .i64 st,.int .i64 lv,.int .i64 k,.int .i64 f,.bool r,.bool wr,.bool x,.bool a,.bool n,.int .i64 s,.int .i64 o]] w fun e w'=>e=.returned (.bool (tableD lv (Dsc.mk k f r wr x a n s o)))∧Below w.heap.size w w':=by
 subst hk
 cases he:eqD (Dsc.mk 1 f r wr x a n s o) ⟨1,f,false,false,false,false,false,0,0⟩
 ·have hn:tableD lv (Dsc.mk 1 f r wr x a n s o)=false:=by unfold tableD;simp only;rw [he];rfl
  have HN:=Lib.hid hn
  clear hn
  go_enter Tryz.func336,Tryz.ntmps336
  go_wp2
  go_ret
  rw [HN.out]
  exact ⟨rfl,by go_grown⟩
 ·have hn:tableD lv (Dsc.mk 1 f r wr x a n s o)=(decide (lv≠3)&&numB f 4095):=by unfold tableD;simp only;rw [he];rfl
  have HN:=Lib.hid hn
  clear hn
  by_cases h0:lv=3
  ·subst h0
   go_enter Tryz.func336,Tryz.ntmps336
   go_wp2
   go_ret
   refine ⟨ret_bool ?_,by go_grown⟩
   rw [HN.out];rfl
  ·have t0:(lv != 3)=true:=by simpa using h0
   go_enter Tryz.func336,Tryz.ntmps336
   go_wp2_with (go_at_call 322;refine (isPage_any _ _).mono ?_;rintro e w' ⟨rfl,rfl⟩)
   go_ret
   refine ⟨ret_bool ?_,by go_grown⟩
   rw [HN.out];simp [h0]
theorem attr_any (st lv:Int) (k f:Int) (r wr x a n:Bool) (s o:Int) (w:World) :
  Calls Tryz.prog 346 #[.agg #[.int .i64 st,.int .i64 lv,.int .i64 k,.int .i64 f,.bool r,.bool wr,.bool x,.bool a,.bool n,.int .i64 s,.int .i64 o]] w fun e w'=>e=.returned (.bool (attrD st (Dsc.mk k f r wr x a n s o)))∧w'=w.alloc (.cells #[.int .i64 st,.int .i64 lv,.int .i64 k,.int .i64 f,.bool r,.bool wr,.bool x,.bool a,.bool n,.int .i64 s,.int .i64 o] 378):=by
 have hn:attrD st (Dsc.mk k f r wr x a n s o)=if st=1 then r&&decide (s=0) else !n&&numB s 15:=rfl
 have HN:=Lib.hid hn
 clear hn
 by_cases h1:st=1
 ·subst h1
  cases r
  all_goals
   go_enter Tryz.func346,Tryz.ntmps346
   go_wp2
   go_ret
   refine ⟨ret_bool ?_,rfl⟩
   rw [HN.out,Bool.eq_iff_iff];simp
 ·have t1:(st==1)=false:=by simpa using h1
  cases n
  all_goals
   go_enter Tryz.func346,Tryz.ntmps346
   go_wp2_with (go_at_call 344;refine (isSmall_any _ _).mono ?_;rintro e w' ⟨rfl,rfl⟩)
   go_ret
   refine ⟨ret_bool ?_,rfl⟩
   rw [HN.out];simp [h1]
set_option maxHeartbeats 1600000 in
theorem leaf_any (st lv:Int) (k f:Int) (r wr x a n:Bool) (s o:Int) (w:World) (hl0:0≤lv) (hl1:lv≤3) :
  Calls Tryz.prog 337 #[.agg #[.int .i64 st,.int .i64 lv,.int .i64 k,.int .i64 f,.bool r,.bool wr,.bool x,.bool a,.bool n,.int .i64 s,.int .i64 o]] w fun e w'=>e=.returned (.bool (leafD st lv (Dsc.mk k f r wr x a n s o)))∧Below w.heap.size w w':=by
 have hn:leafD st lv (Dsc.mk k f r wr x a n s o)=(decide (lv≠0)&&(decide (o=0)&&(numB f 4095&&(decide (f.tmod (cov lv)=0)&&attrD st (Dsc.mk k f r wr x a n s o))))):=rfl
 have HN:=Lib.hid hn
 clear hn
 by_cases h0:lv=0
 ·subst h0
  go_enter Tryz.func337,Tryz.ntmps337
  go_wp2
  go_ret
  refine ⟨ret_bool ?_,by go_grown⟩
  rw [HN.out];rfl
 ·have t0:(lv==0)=false:=by simpa using h0
  by_cases ho:o=0
  ·subst ho
   have HP:=Lib.hid (fun W=>isPage_any f W)
   cases hf:numB f 4095
   ·have HP':=Lib.hid (fun W=>same (HP.out W))
    rw [hf] at HP' HN
    clear HP hf
    go_enter Tryz.func337,Tryz.ntmps337
    go_wp2_with fail
    go_quiet ((go_at_call 322;exact Calls.quiet_of_same (HP'.out _)))
    go_wp2
    go_ret
    refine ⟨ret_bool ?_,below_drewN (bel_alloc (Below.refl _ _) _) _⟩
    rw [HN.out];simp
   ·have hfb:=numB_iff.1 hf
    have hc:=cov_pos lv
    have HC:=Lib.hid (fun W=>covers_any lv W hl0 hl1)
    have HA:=Lib.hid (fun W=>attr_any st lv k f r wr x a n s 0 W)
    have c0:cov lv≠0:=by omega
    rw [hf] at HP HN
    generalize cov lv=c at *
    generalize hA:attrD st (Dsc.mk k f r wr x a n s 0)=ab at *
    clear hA hf
    by_cases ht:f.tmod c=0
    ·have t1:(f.tmod c==0)=true:=by simpa using ht
     have HT:=Lib.hid ht
     clear ht
     go_enter Tryz.func337,Tryz.ntmps337
     go_wp2_with fail
     go_region_held3 (fun w'=>w'.cell? ⟨w.heap.size,0,none⟩=some (.int .i64 st)∧w'.cell? ⟨w.heap.size,1,none⟩=some (.int .i64 lv)∧w'.cell? ⟨w.heap.size,2,none⟩=some (.int .i64 k)∧w'.cell? ⟨w.heap.size,3,none⟩=some (.int .i64 f)
       ∧w'.cell? ⟨w.heap.size,4,none⟩=some (.bool r)∧w'.cell? ⟨w.heap.size,5,none⟩=some (.bool wr)∧w'.cell? ⟨w.heap.size,6,none⟩=some (.bool x)∧w'.cell? ⟨w.heap.size,7,none⟩=some (.bool a)∧w'.cell? ⟨w.heap.size,8,none⟩=some (.bool n)
       ∧w'.cell? ⟨w.heap.size,9,none⟩=some (.int .i64 s)∧w'.cell? ⟨w.heap.size,10,none⟩=some (.int .i64 0)) (go_keep)
      (first | (go_at_call 322;refine (HP.out _).mono ?_;rintro e w' ⟨rfl,rfl⟩) | (go_at_call 345;refine (HC.out _).mono ?_;rintro e w' ⟨rfl,rfl⟩) | (go_at_call 346;refine (HA.out _).mono ?_;rintro e w' ⟨rfl,rfl⟩))
     go_wp2
     go_ret
     refine ⟨ret_bool ?_,by go_grown⟩
     rw [HN.out];simp [h0,HT.out]
    ·have t1:(f.tmod c==0)=false:=by simpa using ht
     have HT:=Lib.hid ht
     have HP':=Lib.hid (fun W=>same (HP.out W))
     have HC':=Lib.hid (fun W=>same (HC.out W))
     clear ht HP HC
     go_enter Tryz.func337,Tryz.ntmps337
     go_wp2_with fail
     go_quiet (first | (go_at_call 322;exact Calls.quiet_of_same (HP'.out _)) | (go_at_call 345;exact Calls.quiet_of_same (HC'.out _)))
     go_wp2
     go_ret
     refine ⟨ret_bool ?_,below_drewN (bel_alloc (Below.refl _ _) _) _⟩
     rw [HN.out];simp [HT.out]
  ·have tno:(o != 0)=true:=by simpa using ho
   go_enter Tryz.func337,Tryz.ntmps337
   go_wp2
   go_ret
   refine ⟨ret_bool ?_,by go_grown⟩
   rw [HN.out];simp [ho]
end
end Go.Proofs.YtlgpdbgingjpbaaGreat
