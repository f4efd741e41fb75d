/- Plain walking: a region that draws its order and whose one last operation writes what earlier ones read: the invariant S holds behind every operation but that one. Contracts: Read,New,Frame of package mem;Read of the reference. Contracts: put,Write of package mem;Put,Write of the reference. Stage 5: what the program's calls are held against;the law's small calls;its argument,opened. Two stages plainly: Trans;rows of numbers that are appended. Stage 7: what the program's calls are held against;the argument,opened;the law's small calls. -/
import Derived.Test.YtlgpdbgingjpbaaGreatWd
import Derived.OrdersHeld
import Derived.StillTail
import Derived.Deep.RegionHeld3
import Derived.Test.YtlgpdbgingjpbaaGreatMemC
import Derived.Test.YtlgpdbgingjpbaaGreatNa
import Derived.Test.YtlgpdbgingjpbaaGreatEq
import Derived.Test.YtlgpdbgingjpbaaGreatEo
import Derived.Deep.CutBlock
set_option linter.all false
namespace Go.Proofs.YtlgpdbgingjpbaaGreat
section
open Go.RowKit
section
variable {P:Program} {ops:Array Oper} {Q:Exit→Act→World→Prop} {md:Region.Mode} {S:World→Prop} {n:Nat}
def wpLate (P:Program) (md:Region.Mode) (ops:Array Oper) (Q:Exit→Act→World→Prop) (S:World→Prop) (n:Nat):Nat→Array Bool→Act→World→Prop
 | 0,listed,a,w=>Region.ready md ops listed=[]∧Q .normal a w
 | fuel+1,listed,a,w=>
  (Region.ready md ops listed=[]→Q .normal a w)∧
  ∀ i∈Region.ready md ops listed,wpOp P ops Q i (fun a' w'=>(i=n∨S w')∧wpLate P md ops Q S n fuel (listed.setIfInBounds i true) a' w') a w
theorem late_any:∀ (fuel:Nat) (listed:Array Bool) (a:Act) (w:World),wpLate P md ops Q S n fuel listed a w→wpAny P md ops Q fuel listed a w
 | 0,_,_,_,h=>h
 | fuel+1,_,_,_,h=>⟨h.1,fun i hi=>wpOp_mono (fun a' w' h'=>late_any fuel _ a' w' h'.2) (h.2 i hi)⟩
theorem late_first {i:Nat} {oi:Oper} {v:Value} (hi:ops[i]?=some oi) (hsel:∀ (j:Nat) (o:Oper) cs b,ops[j]?=some o→o.op≠.select cs b) (hn:Region.waitsFor md ops n i=true)
  (hQ:∀ c a w,Q (.panic c) (a.put oi.dst v) w→Q (.panic c) a w) :
  ∀ (fuel:Nat) (listed:Array Bool) (a:Act) (w:World),
   (∀ j oj,ops[j]?=some oj→j≠i→listed.getD j true=false→(∀ e∈oj.after,Region.binds md e=true→e.on≠i)→oi.apart ops oj=true)→
   i∈Region.ready md ops listed→YieldsIf P ops S oi v a→S w→
   wpLate P md ops Q S n fuel (listed.setIfInBounds i true) (a.put oi.dst v) w→wpLate P md ops Q S n (fuel+1) listed a w:=by
 intro fuel
 induction fuel with
 | zero=>
  intro listed a w _ hr hy hS H
  refine ⟨fun h=>absurd hr (by rw [h];simp),fun j hj=>?_⟩
  by_cases hji:j=i
  ·subst hji;exact hy.wpOp hi hS ⟨.inr hS,H⟩
  ·exact absurd (ready_mono hj hji) (by rw [H.1];simp)
 | succ fuel ih=>
  intro listed a w hfree hr hy hS H
  refine ⟨fun h=>absurd hr (by rw [h];simp),fun j hj=>?_⟩
  by_cases hji:j=i
  ·subst hji;exact hy.wpOp hi hS ⟨.inr hS,H⟩
  ·have hun:=(mem_ready.1 hr).1
   obtain ⟨hjun,oj,hoj,hall⟩:=mem_ready.1 hj
   have hnot:∀ e∈oj.after,Region.binds md e=true→e.on≠i:=by
    intro e he hb heq
    have h1:=hall e he hb
    rw [heq,getD_both hun] at h1
    cases h1
   have hjn:j≠n:=by
    rintro rfl
    obtain ⟨o',ho',e,he,hb,hon⟩:=Region.waitsFor_spec hn
    obtain rfl:=Option.some.inj (ho'.symm.trans hoj)
    exact hnot e he hb hon
   have h2:=wpOp_putIf hoj (hfree j oj hoj hji hjun hnot) (fun cs b=>hsel i oi cs b hi) (fun cs b=>hsel j oj cs b hoj) hQ hy (H.2 j (ready_mono hj hji))
   refine wpOp_mono (fun a' w' h3=>?_) h2
   have hS':S w':=h3.2.1.resolve_left hjn
   refine ⟨.inr hS',ih (listed.setIfInBounds j true) a' w' ?_ (ready_mono hr (Ne.symm hji)) h3.1 hS' ?_⟩
   ·intro k ok hk hki hunk hno
    refine hfree k ok hk hki ?_ hno
    by_cases hjk:j=k
    ·subst hjk;exact hjun
    ·rw [getD_set_ne true hjk] at hunk;exact hunk
   ·rw [Array.setIfInBounds_comm _ _ hji]
    exact h3.2.2
theorem late_take (i:Nat) {oi:Oper} {v:Value} {fuel:Nat} {listed:Array Bool} {a:Act} {w:World} (hi:ops[i]?=some oi)
  (hs:Region.noSelect ops=true) (hf:Region.free md ops listed i=true) (hr:(Region.ready md ops listed).contains i=true) (hn:Region.waitsFor md ops n i=true)
  (hQ:∀ c a w,Q (.panic c) (a.put oi.dst v) w→Q (.panic c) a w) (hS:S w) (hy:YieldsIf P ops S oi v a)
  (h:wpLate P md ops Q S n fuel (listed.setIfInBounds i true) (a.put oi.dst v) w):wpLate P md ops Q S n (fuel+1) listed a w:=
 late_first hi (Region.noSelect_spec hs) hn hQ fuel listed a w (Region.free_spec hi hf) (by simpa using hr) hy hS h
theorem late_one (i:Nat) {o:Oper} {fuel:Nat} {listed:Array Bool} {a:Act} {w:World} (hr:Region.ready md ops listed=[i]) (ho:ops[i]?=some o)
  (h:∀ K':Act→World→Prop,Shut (∀ a w,S w→(S w→wpLate P md ops Q S n fuel (listed.setIfInBounds i true) a w)→K' a w)→if Region.wanted o (yielded ops a.tmps)=true then Oper.wp P o a w K' Q else K' (a.put o.dst undef) w) :
  wpLate P md ops Q S n (fuel+1) listed a w:=by
 refine ⟨fun h0=>absurd h0 (by rw [hr];simp),fun j hj=>?_⟩
 rw [hr] at hj
 obtain rfl:j=i:=by simpa using hj
 exact wpOp_step ho (fun K' hK=>h K' (fun a w hS hW=>hK a w ⟨.inr hS,hW hS⟩))
theorem late_last {o:Oper} {listed:Array Bool} {a:Act} {w:World} (hr:Region.ready md ops listed=[n]) (hd:Region.ready md ops (listed.setIfInBounds n true)=[]) (ho:ops[n]?=some o)
  (h:∀ K':Act→World→Prop,Shut (∀ a w,Q .normal a w→K' a w)→if Region.wanted o (yielded ops a.tmps)=true then Oper.wp P o a w K' Q else K' (a.put o.dst undef) w) :
  wpLate P md ops Q S n 1 listed a w:=by
 refine ⟨fun h0=>absurd h0 (by rw [hr];simp),fun j hj=>?_⟩
 rw [hr] at hj
 obtain rfl:j=n:=by simpa using hj
 exact wpOp_step ho (fun K' hK=>h K' (fun a w hq=>hK a w ⟨.inl rfl,hd,hq⟩))
theorem wp_region_late {id:Nat} {a:Act} {w:World} (n:Nat) (S:World→Prop) (hm:P.follows .mixedOrders=true)
  (h:wpLate P .any ops Q S n ops.size (Array.replicate ops.size false) a w.drew):(Code.region id ops true).wp P Q a w:=
 wp_region_any hm (late_any _ _ _ _ h)
end
end
section
open Go.ChangeShapes Go.WideShapes Go.ChangeAt Go.RowKit Go.Deep
theorem mayE_zero {l:Nat} {a s:Int} (h:mayM l a s=0):okS s=true∧0≤a∧a < 8 * (l:Int)∧a % s=0:=by
 unfold mayM at h
 split at h
 ·omega
 ·split at h
  ·omega
  ·split at h
   ·omega
   ·rename_i h1 h2 h3
    refine ⟨by simpa using h1,by omega,by omega,by simpa using h3⟩
def rdV (X:Nat→BitVec 64) (a s:Int):BitVec 64:=X (a / 8).toNat >>> (a % 8 * 8).toNat&&& msk (8 * s)
theorem read_ok (f:Option Addr) (l c:Nat) (X:Nat→BitVec 64) (a s:Int) (w:World) (hX:WordsAt w f l X) (hM:okM l=true) (hE:mayM l a s=0) :
  Calls Tryz.prog 116 #[.agg #[.slice f l c],.int .i64 a,.int .i64 s] w fun e w'=>e=.returned (.tuple #[.int .u64 (u (rdV X a s)),.int .i64 0])∧Below w.heap.size w w':=by
 obtain ⟨hs,a0,a1,a2⟩:=mayE_zero hE
 obtain ⟨l1,l2,l3⟩:=okM_true hM
 have hs1:=okS_true hs
 obtain ⟨W,hW⟩:∃ W,W=((w.alloc (.cells #[.slice f l c] 24)).alloc (.cells #[.slice f l c] 143)).alloc (.cells #[.int .i64 a,.int .i64 s] 214):=⟨_,rfl⟩
 have hb1:Below w.heap.size w W:=by rw [hW];exact bel_alloc (bel_alloc (bel_alloc (Below.refl w.heap.size w) _) _) _
 have L1:Loc W (w.heap.size+1) 0 (.slice f l c):=by rw [hW];exact (Loc.new _ _ _ _ 0 _ (by simp) rfl).alloc _
 have L2:Loc W (w.heap.size+1+1) 0 (.int .i64 a):=by rw [hW];exact Loc.new _ _ _ _ 0 _ (by simp) rfl
 have L3:Loc W (w.heap.size+1+1) 1 (.int .i64 s):=by rw [hW];exact Loc.new _ _ _ _ 1 _ (by simp) rfl
 have H:=allows_any f l c a s W
 rw [if_pos hM,hE] at H
 have HH:=Lib.hid H
 have HX:=Lib.hid (hX.below hb1)
 clear H hX
 go_enter Tryz.func116,Tryz.ntmps116
 go_wp2_with fail
 rw [← hW]
 refine HH.out.mono ?_
 rintro e w1 ⟨rfl,hb⟩
 have c1:=(L1.below hb).cell
 have c2:=(L2.below hb).cell
 have c3:=(L3.below hb).cell
 obtain ⟨b,o,rfl,hc⟩:=HX.out (a / 8).toNat (by omega)
 have c4:=keepc hb hc
 simp only at c4
 have HB:=Lib.hid (bel_trans hb1 hb)
 have i1:0≤a / 8:=by omega
 have i2:a / 8 < (l:Int):=by omega
 clear hW hb hb1 L1 L2 L3 hc HH HX
 go_wp2_with fail
 go_region_held3 (fun w'=>w'.cell? ⟨w.heap.size+1,0,none⟩=some (.slice (some ⟨b,o,none⟩) l c)∧w'.cell? ⟨w.heap.size+1+1,0,none⟩=some (.int .i64 a)∧w'.cell? ⟨w.heap.size+1+1,1,none⟩=some (.int .i64 s)∧w'.cell? ⟨b,o+(a / 8).toNat,none⟩=some (.int .u64 (u (X (a / 8).toNat)))) (refine ⟨?_,?_,?_,?_⟩<;>(repeat (first | assumption | refine cell_keep ?_ _ | refine cell_drew ?_)))
  (first
   | (go_at_call 156;refine (pword_any _ _ _ a0 (by omega)).mono ?_;rintro e w' ⟨rfl,rfl⟩)
   | (go_at_call 157;refine (plow_any _ _ _ a0 (by omega)).mono ?_;rintro e w' ⟨rfl,rfl⟩)
   | (go_at_call 158;refine (pones_any _ _ _ (by omega) (by omega)).mono ?_;rintro e w' ⟨rfl,rfl⟩))
 go_wp2
 go_ret2
 exact ⟨rfl,Below.drew (bel_alloc (bel_alloc (bel_alloc HB.out _) _) _)⟩
end
section
open Go.ChangeShapes Go.WideShapes Go.ChangeAt Go.RowKit Go.Deep
def pwV (x:BitVec 64) (k:Nat) (s:Int) (v:BitVec 64):BitVec 64:=(x&&& ~~~(msk (8 * s) <<< k))||| ((v&&& msk (8 * s)) <<< k)
def wrV (X:Nat→BitVec 64) (a s:Int) (v:BitVec 64):Nat→BitVec 64:=upd X (a / 8).toNat (pwV (X (a / 8).toNat) (a % 8 * 8).toNat s v)
end
section
open Go.ChangeShapes Go.WideShapes Go.ChangeAt Go.RowKit Go.Deep
def tableA (l:Nat) (X:Nat→BitVec 64) (st lv fr pg:Int):Dsc×Int:=
 if okM l&&(placeB st lv&&numB pg 4095) then (if numB fr ((l:Int) / 8 - 1) then (tblD X st lv fr pg,0) else (dz,2)) else (dz,1)
def walkMay (l:Nat) (st fr pg:Int):Bool:=okM l&&(decide (st=1∨st=2)&&(numB fr 4095&&numB pg 4095))
def walkA (l:Nat) (X:Nat→BitVec 64) (st fr pg:Int):(Hit×Flt×List Int)×Int:=
 if walkMay l st fr pg then (walkD l X st fr pg,0) else ((hit0,flt0,[]),1)
def TableC:Prop:=∀ (f:Option Addr) (l c:Nat) (X:Nat→BitVec 64) (st lv fr pg:Int) (w:World),l≤1000000→l≤c→WordsAt w f l X→
 Calls Tryz.prog 282 #[.agg #[.slice f l c],.int .i64 st,.int .i64 lv,.int .i64 fr,.int .i64 pg] w fun e w'=>e=.returned (.tuple #[dscV (tableA l X st lv fr pg).1,.int .i64 (tableA l X st lv fr pg).2])∧Below w.heap.size w w'
def Walk4End (w:World) (q:(Hit×Flt×List Int)×Int) (e:Ending) (w':World):Prop:=
 ∃ f' c',e=.returned (.tuple #[hitV q.1.1,fltV q.1.2.1,.slice f' q.1.2.2.length c',.int .i64 q.2])∧OwnI w' w.heap.size (.slice f' q.1.2.2.length c') q.1.2.2∧Below w.heap.size w w'
def WalkC:Prop:=∀ (f:Option Addr) (l c:Nat) (X:Nat→BitVec 64) (st fr pg:Int) (w:World),l≤1000000→l≤c→WordsAt w f l X→
 Calls Tryz.prog 319 #[.agg #[.slice f l c],.int .i64 st,.int .i64 fr,.int .i64 pg] w (Walk4End w (walkA l X st fr pg))
structure Q5 where
 f:Option Addr
 l:Nat
 c:Nat
 X:Nat→BitVec 64
 fr:Int
 g:Option Addr
 n:Nat
 d:Nat
 P:Nat→Int
structure Ok5 (W:World) (q:Q5):Prop where
 words:WordsAt W q.f q.l q.X
 nums:NumsAt W q.g q.n q.P
 l1:q.l≤1000000000000000
 n1:q.n≤1000000000000000
 lc:q.l≤q.c
 nd:q.n≤q.d
 fr1:InI q.fr
theorem Ok5.below {W w:World} {q:Q5} (h:Ok5 W q) (hb:Below W.heap.size W w):Ok5 w q:=⟨h.words.below hb,h.nums.below hb,h.l1,h.n1,h.lc,h.nd,h.fr1⟩
section
variable {H:Type} {enc:TypeId×Value→H} {w:World} {base:Nat} {held:Bool}
end
end
section
open Go.ChangeShapes Go.WideShapes Go.ChangeAt Go.RowKit Go.Deep
section
variable {M:Int→Int→Hit×Flt×List Int} {T:Int→Int→Dsc} {pg acc:Int} {n:Nat} {lv mid:Int} {R:List Int} {a b:Hit×Flt×List Int} {d:Dsc}
end
theorem tbl_in (X:Nat→BitVec 64) (st lv fr pg:Int) (h:(tblD X st lv fr pg).k=2):(tblD X st lv fr pg).f+pg % cov lv≤4095:=by
 have hk:=of_cases st lv (X (fr * 8+idxI lv pg).toNat)
 have hd:tblD X st lv fr pg=ofD st lv (X (fr * 8+idxI lv pg).toNat):=rfl
 rw [hd] at h ⊢
 generalize ofD st lv (X (fr * 8+idxI lv pg).toNat)=d at *
 rcases hk with hk | ⟨hk,_⟩
 ·rw [hk] at h;cases h
 ·unfold mayD at hk
  rw [if_neg (by omega),if_neg (by omega),if_pos h] at hk
  unfold leafD at hk
  simp only [Bool.and_eq_true,numB_iff,decide_eq_true_eq] at hk
  obtain ⟨_,_,⟨f0,f1⟩,hm,_⟩:=hk
  rw [Int.tmod_eq_emod_of_nonneg f0] at hm
  have hc:cov lv=512∨cov lv=64∨cov lv=8∨cov lv=1:=by
   unfold cov
   split<;>(try split)<;>(try split)<;>simp
  rcases hc with hc | hc | hc | hc<;>rw [hc] at hm ⊢<;>omega
theorem mid_cases (l:Nat) (X:Nat→BitVec 64) (on:Bool) (tf mid acc:Int) (t0:0≤tf) (m0:0≤mid):(midD l X on tf mid acc).2.2.length≤4∧(∀ x∈(midD l X on tf mid acc).2.2,0≤x∧x < (l:Int) / 8)∧
  (((midD l X on tf mid acc).2.1=flt0∧0≤(midD l X on tf mid acc).1.f∧(midD l X on tf mid acc).1.f < (l:Int) / 8)∨((midD l X on tf mid acc).2.1.k≠0∧(midD l X on tf mid acc).1=hit0)):=by
 unfold midD
 cases on
 ·rw [if_pos rfl]
  by_cases h:(l:Int) / 8≤mid
  ·rw [if_pos h]
   exact ⟨by simp,by simp,.inr ⟨by simp,rfl⟩⟩
  ·rw [if_neg h]
   exact ⟨by simp,by simp,.inl ⟨rfl,m0,by simp only;omega⟩⟩
 ·rw [if_neg (by decide)]
  have hw:=walk_cases l X 2 tf mid t0 m0
  generalize walkD l X 2 tf mid=q at *
  obtain ⟨h1,h2,h3⟩:=hw
  rcases h3 with ⟨h3,_,h4,h5⟩ | ⟨h3,h4,_⟩
  ·rw [if_pos (by rw [h3];rfl)]
   split
   ·exact ⟨h1,h2,.inl ⟨rfl,h4,h5⟩⟩
   ·rename_i hg
    exact ⟨h1,h2,.inr ⟨hg,rfl⟩⟩
  ·rw [if_neg h3]
   exact ⟨h1,h2,.inr ⟨h3,rfl⟩⟩
end
section
open Go.ChangeShapes Go.WideShapes Go.ChangeAt Go.RowKit Go.Deep
def mayN (l:Nat) (tf pg acc:Int):Bool:=okM l&&(numB tf 4095&&(numB pg 4095&&numB acc 2))
def midA (l:Nat) (X:Nat→BitVec 64) (on:Bool) (tf pg acc:Int):(Hit×Flt×List Int)×Int:=
 if mayN l tf pg acc=true then (midD l X on tf pg acc,0) else ((hit0,flt0,[]),1)
def MidC:Prop:=∀ (f:Option Addr) (l c:Nat) (X:Nat→BitVec 64) (on:Bool) (tf tg mid acc:Int) (w:World),l≤1000000→l≤c→WordsAt w f l X→
 Calls Tryz.prog 274 #[.agg #[.slice f l c],.agg #[.bool on,.int .i64 tf,.int .i64 tg],.int .i64 mid,.int .i64 acc] w (Walk4End w (midA l X on tf mid acc))
theorem midA_no {l:Nat} {X:Nat→BitVec 64} {on:Bool} {tf pg acc:Int} (h:mayN l tf pg acc=false):midA l X on tf pg acc=((hit0,flt0,[]),1):=by unfold midA;rw [h];rfl
theorem midA_yes {l:Nat} {X:Nat→BitVec 64} {on:Bool} {tf pg acc:Int} (h:mayN l tf pg acc=true):midA l X on tf pg acc=(midD l X on tf pg acc,0):=by unfold midA;rw [h];rfl
theorem mayN_iff {l:Nat} {tf pg acc:Int}:mayN l tf pg acc=true↔okM l=true∧(0≤tf∧tf≤4095)∧(0≤pg∧pg≤4095)∧0≤acc∧acc≤2:=by
 simp only [mayN,Bool.and_eq_true,numB_iff]
section
variable {H:Type} {enc:TypeId×Value→H} {w:World} {base:Nat} {held:Bool}
end
end
end Go.Proofs.YtlgpdbgingjpbaaGreat
