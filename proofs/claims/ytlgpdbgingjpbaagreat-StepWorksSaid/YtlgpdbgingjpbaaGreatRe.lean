/- The contract of the reference's Join. The reference's Word: contracts. Roots,plainly: which may be,their words,what a word is. The small functions of package root and of its reference: contracts. Reading words (package desc),and the reference's Of: contracts. Package root and its reference: contracts. Package root's Of and its reference's: contracts. -/
import Derived.Test.YtlgpdbgingjpbaaGreatLy
import Derived.Test.YtlgpdbgingjpbaaGreatDd
import Derived.Test.YtlgpdbgingjpbaaGreatKt
import Derived.Test.YtlgpdbgingjpbaaGreatDb
import Derived.Test.YtlgpdbgingjpbaaGreatGa
set_option linter.all false
namespace Go.Proofs.YtlgpdbgingjpbaaGreat
section
open Go.ChangeShapes Go.WideShapes Go.ChangeAt Go.RowKit Go.Deep
end
section
open Go.ChangeShapes Go.WideShapes Go.ChangeAt Go.RowKit Go.Deep
end
section
open Go.ChangeShapes Go.WideShapes Go.ChangeAt Go.RowKit Go.Deep
structure Rt where
 o:Bool
 f:Int
 t:Int
deriving DecidableEq
def rz:Rt:=⟨false,0,0⟩
def eqT (a b:Rt):Bool:=decide (a=b)
def mayRt (r:Rt):Bool:=numB r.f 4095&&numB r.t 15
def rootL (r:Rt):List Fld:=[bitFl 0 r.o,numFl 12 12 r.f,numFl 48 4 r.t]
def wordT (r:Rt):BitVec 64:=(joinL (rootL r)).2.1
def readT (v:BitVec 64):Rt:=⟨flagW v 0,getN v 12 12,getN v 48 4⟩
def isT (v:BitVec 64):Bool:=decide (wordT (readT v)=v)
theorem rootL_small (r:Rt):SmallL (rootL r):=by
 intro x hx
 simp only [rootL,List.mem_cons,List.not_mem_nil,or_false] at hx
 rcases hx with rfl | rfl | rfl
 ·exact small_bit _ _ (by decide) (by decide)
 ·exact small_num _ _ _ (by decide) (by decide) (by decide) (by decide)
 ·exact small_num _ _ _ (by decide) (by decide) (by decide) (by decide)
theorem eq_root (o:Bool) (f t:Int) (o':Bool) (f' t':Int) (w:World) :
  (Op.equalIn 10000 33 (.agg #[.bool o,.int .i64 f,.int .i64 t]) (.agg #[.bool o',.int .i64 f',.int .i64 t'])).run Tryz.prog w=.ok (eqT ⟨o,f,t⟩ ⟨o',f',t'⟩) w:=by
 rw [run_equalIn_agg w 9999 _ _ _ (by kernel_rfl) (by kernel_rfl)]
 simp only [Program.fieldsOf,Tryz.underlying33]
 simp [go_sem,eqT]
 by_cases h1:o=o'
 rotate_left
 ·simp [h1]
 by_cases h2:f=f'
 rotate_left
 ·simp [h1,h2]
 by_cases h3:t=t'
 rotate_left
 ·simp [h1,h2,h3]
 simp [h1,h2,h3]
@[go_sem high] theorem eql_root (o:Bool) (f t:Int) (o':Bool) (f' t':Int) (w:World) :
  (binOp .eql 33 (.agg #[.bool o,.int .i64 f,.int .i64 t]) (.agg #[.bool o',.int .i64 f',.int .i64 t'])).run Tryz.prog w=.ok (.bool (eqT ⟨o,f,t⟩ ⟨o',f',t'⟩)) w:=by
 rw [run_eql_struct,eq_root];rfl
@[go_sem high] theorem neq_root (o:Bool) (f t:Int) (o':Bool) (f' t':Int) (w:World) :
  (binOp .neq 33 (.agg #[.bool o,.int .i64 f,.int .i64 t]) (.agg #[.bool o',.int .i64 f',.int .i64 t'])).run Tryz.prog w=.ok (.bool (!eqT ⟨o,f,t⟩ ⟨o',f',t'⟩)) w:=by
 rw [run_neq_struct,eq_root];rfl
end
section
open Go.ChangeShapes Go.WideShapes Go.ChangeAt Go.RowKit Go.Deep
theorem isUpTo_any (p m:Int) (w:World) :
  Calls Tryz.prog 144 #[.int .i64 p,.int .i64 m] w fun e w'=>e=.returned (.bool (numB p m))∧w=w':=by
 go_enter Tryz.func144,Tryz.ntmps144
 go_wp2
 all_goals
  go_ret
  refine ⟨ret_bool ?_,rfl⟩
  unfold numB
  rw [Bool.eq_iff_iff]
  simp
  omega
theorem smayBeR_any (o:Bool) (f t:Int) (w:World) :
  Calls Tryz.prog 109 #[.agg #[.bool o,.int .i64 f,.int .i64 t]] w fun e w'=>e=.returned (.bool (mayRt ⟨o,f,t⟩))∧Below w.heap.size w w':=by
 have hm:mayRt ⟨o,f,t⟩=(numB f 4095&&numB t 15):=rfl
 rw [hm]
 have HF:=Lib.hid (fun W=>isUpTo_any f 4095 W)
 have HT:=Lib.hid (fun W=>isUpTo_any t 15 W)
 clear hm
 generalize numB f 4095=a at *
 generalize numB t 15=b at *
 cases a
 ·go_enter Tryz.func109,Tryz.ntmps109
  go_wp2_with fail
  refine (HF.out _).mono ?_
  rintro e w' ⟨rfl,rfl⟩
  go_wp2
  go_ret
  exact ⟨rfl,by go_grown⟩
 ·go_enter Tryz.func109,Tryz.ntmps109
  go_wp2_with fail
  refine (HF.out _).mono ?_
  rintro e w' ⟨rfl,rfl⟩
  go_wp2_with fail
  refine (HT.out _).mono ?_
  rintro e w' ⟨rfl,rfl⟩
  go_wp2
  go_ret
  exact ⟨rfl,by go_grown⟩
theorem on_any (o:Bool) (f t:Int) (w:World) :
  Calls Tryz.prog 146 #[.agg #[.bool o,.int .i64 f,.int .i64 t]] w fun e w'=>e=.returned (.int .u64 (u (bitFl 0 o).v))∧Below w.heap.size w w':=by
 have h1:u (bitFl 0 true).v=1:=by show u 1#64=1;decide
 have h0:u (bitFl 0 false).v=0:=by show u 0#64=0;decide
 cases o
 ·rw [h0]
  clear h1 h0
  go_enter Tryz.func146,Tryz.ntmps146
  go_wp2
  go_ret
  exact ⟨rfl,by go_grown⟩
 ·rw [h1]
  clear h1 h0
  go_enter Tryz.func146,Tryz.ntmps146
  go_wp2
  go_ret
  exact ⟨rfl,by go_grown⟩
theorem fbitsR_any (o:Bool) (f t:Int) (v:BitVec 64) (p m:Int) (w:World) (h:okB p m=true) (hm:m≤12) :
  Calls Tryz.prog 265 #[.agg #[.bool o,.int .i64 f,.int .i64 t,.int .u64 (u v)],.int .i64 p,.int .i64 m] w fun e w'=>e=.returned (.int .i64 (getN v p m))∧Below w.heap.size w w':=by
 obtain ⟨h0,h1,h2⟩:=okB_true h
 have hb:=getN_bd v p m (by omega) hm
 have HG:=Lib.hid (fun W=>get_yes v p m W h)
 have he:u (v >>> p.toNat&&& msk m)=getN v p m:=rfl
 rw [he] at HG
 clear he h h0 h1 h2
 generalize getN v p m=g at *
 obtain ⟨hb0,hb1⟩:=hb
 go_enter Tryz.func265,Tryz.ntmps265
 go_wp2_with fail
 refine (HG.out _).mono ?_
 rintro e w' ⟨rfl,rfl⟩
 go_wp2
 go_ret
 exact ⟨rfl,by go_grown⟩
end
section
open Go.ChangeShapes Go.WideShapes Go.ChangeAt Go.RowKit Go.Deep
theorem number_any (v:BitVec 64) (p m:Int) (w:World) (h:okB p m=true) (hm:m≤12) :
  Calls Tryz.prog 333 #[.int .u64 (u v),.int .i64 p,.int .i64 m] w fun e w'=>e=.returned (.int .i64 (getN v p m))∧Below w.heap.size w w':=by
 obtain ⟨h0,h1,h2⟩:=okB_true h
 have hb:=getN_bd v p m (by omega) hm
 have HG:=Lib.hid (get_yes v p m w h)
 have he:u (v >>> p.toNat&&& msk m)=getN v p m:=rfl
 rw [he] at HG
 clear he h h0 h1 h2
 generalize getN v p m=g at *
 obtain ⟨hb0,hb1⟩:=hb
 go_enter Tryz.func333,Tryz.ntmps333
 go_wp2_with fail
 refine HG.out.mono ?_
 rintro e w' ⟨rfl,rfl⟩
 go_wp2
 go_ret
 exact ⟨rfl,by go_grown⟩
theorem flag_any (v:BitVec 64) (p:Int) (w:World) (h0:0≤p) (h1:p≤63) :
  Calls Tryz.prog 343 #[.int .u64 (u v),.int .i64 p] w fun e w'=>e=.returned (.bool (flagW v p))∧Below w.heap.size w w':=by
 have HN:=Lib.hid (number_any v p 1 w (by unfold okB;exact decide_eq_true ⟨h0,by omega,by omega⟩) (by omega))
 have hf:flagW v p=(getN v p 1==1):=(beq_int _ _).symm
 rw [hf]
 clear hf
 generalize getN v p 1=g at *
 go_enter Tryz.func343,Tryz.ntmps343
 go_wp2_with fail
 refine HN.out.mono ?_
 rintro e w' ⟨rfl,hb⟩
 go_wp2
 go_ret
 exact ⟨rfl,hb⟩
theorem kind_any (st lv:Int) (v:BitVec 64) (w:World) :
  Calls Tryz.prog 332 #[.agg #[.int .i64 st,.int .i64 lv],.int .u64 (u v)] w fun e w'=>e=.returned (.int .i64 (kindD lv v))∧Below w.heap.size w w':=by
 have HF:=Lib.hid (fun W=>flag_any v 0 W (by decide) (by decide))
 have HG:=Lib.hid (fun W=>flag_any v 1 W (by decide) (by decide))
 have hk:kindD lv v=if flagW v 0=false then 0 else if flagW v 1=true∧lv≠3 then 1 else 2:=rfl
 have HK:=Lib.hid hk
 clear hk
 generalize kindD lv v=kk at *
 generalize flagW v 0=f0 at *
 generalize flagW v 1=f1 at *
 cases f0
 ·have HK':=Lib.hid (HK.out.trans (if_pos rfl))
  clear HK HG
  go_enter Tryz.func332,Tryz.ntmps332
  go_wp2_with (go_at_call 343;refine (HF.out _).mono ?_;rintro e w' ⟨rfl,hb1⟩)
  go_ret
  rw [HK'.out]
  exact ⟨rfl,bel_trans (bel_alloc (Below.refl _ _) _) hb1⟩
 ·have HK':=Lib.hid (HK.out.trans (if_neg (by decide)))
  clear HK
  have hBX:=Lib.hid (BoxAt.new w #[.int .i64 st,.int .i64 lv] 376)
  cases f1
  ·have HK2:=Lib.hid (HK'.out.trans (if_neg (fun h=>by cases h.1)))
   clear HK'
   go_enter Tryz.func332,Tryz.ntmps332
   go_wp2_with fail
   refine (HF.out _).mono ?_
   rintro e w1 ⟨rfl,hb1⟩
   go_wp2_with (go_at_call 343;refine (HG.out _).mono ?_;rintro e w' ⟨rfl,hb2⟩)
   go_ret
   rw [HK2.out]
   exact ⟨rfl,bel_trans (bel_trans (bel_alloc (Below.refl _ _) _) hb1) hb2⟩
  ·by_cases h3:lv=3
   ·subst h3
    have HK2:=Lib.hid (HK'.out.trans (if_neg (fun h=>h.2 rfl)))
    clear HK'
    go_enter Tryz.func332,Tryz.ntmps332
    go_wp2_with fail
    refine (HF.out _).mono ?_
    rintro e w1 ⟨rfl,hb1⟩
    have hX1:=Lib.hid (hBX.out.below hb1)
    go_wp2_with fail
    refine (HG.out _).mono ?_
    rintro e w2 ⟨rfl,hb2⟩
    have v1:=(hX1.out.below hb2).cell 1
    simp only [List.getElem?_toArray,List.getElem?_cons_zero,List.getElem?_cons_succ] at v1
    go_wp2
    go_ret
    rw [HK2.out]
    exact ⟨rfl,bel_trans (bel_trans (bel_alloc (Below.refl _ _) _) hb1) hb2⟩
   ·have HK2:=Lib.hid (HK'.out.trans (if_pos ⟨rfl,h3⟩))
    have t3:(lv != 3)=true:=by simpa using h3
    clear HK' h3
    go_enter Tryz.func332,Tryz.ntmps332
    go_wp2_with fail
    refine (HF.out _).mono ?_
    rintro e w1 ⟨rfl,hb1⟩
    have hX1:=Lib.hid (hBX.out.below hb1)
    go_wp2_with fail
    refine (HG.out _).mono ?_
    rintro e w2 ⟨rfl,hb2⟩
    have v1:=(hX1.out.below hb2).cell 1
    simp only [List.getElem?_toArray,List.getElem?_cons_zero,List.getElem?_cons_succ] at v1
    go_wp2
    go_ret
    rw [HK2.out]
    exact ⟨rfl,bel_trans (bel_trans (bel_alloc (Below.refl _ _) _) hb1) hb2⟩
end
section
open Go.ChangeShapes Go.WideShapes Go.ChangeAt Go.RowKit Go.Deep
theorem kc_below {w w':World} (hb:Below w.heap.size w w') {b o:Nat} {x:Value} (hc:w.cell? ⟨b,o,none⟩=some x):w'.cell? ⟨b,o,none⟩=some x:=
 (hb.cell (p:=⟨b,o,none⟩) (cell_block hc)).trans hc
theorem kc_alloc {w:World} {b o:Nat} {x:Value} (h:w.cell? ⟨b,o,none⟩=some x) (ob:Obj):(w.alloc ob).cell? ⟨b,o,none⟩=some x:=kc_below (bel_alloc (Below.refl _ _) ob) h
theorem kc_drew {w:World} {b o:Nat} {x:Value} (h:w.cell? ⟨b,o,none⟩=some x):w.drew.cell? ⟨b,o,none⟩=some x:=h
theorem join_new (L:List Fld) (n:Nat) (cs:Array Value) (W:World) (hn:L.length=n) (hl:n≤100) (hc:cs.toList=cellsL L) (hs:SmallL L) (q:BitVec 64) (hq:(joinL L).2.1=q) (z:Int) (hz:(joinL L).2.2=z) :
  Calls Tryz.prog 145 #[.slice (some ⟨W.heap.size,0,none⟩) n n] (W.alloc (.cells cs 140)) fun e w'=>e=.returned (.tuple #[.int .u64 (u q),.int .i64 z])∧Below W.heap.size W w':=by
 subst hq hz hn
 refine (join_any (some ⟨W.heap.size,0,none⟩) L.length L.length (nth L) _ (by omega) ((OwnL.made W W.heap.size L.length L cs (Nat.le_refl _) rfl hl hc).flds hs)).mono ?_
 rintro e w' ⟨rfl,hb⟩
 exact ⟨rfl,bel_trans (bel_alloc (Below.refl _ _) _) hb⟩
set_option maxRecDepth 100000 in
theorem swordR_any (o:Bool) (f t:Int) (w:World) :
  Calls Tryz.prog 110 #[.agg #[.bool o,.int .i64 f,.int .i64 t]] w fun e w'=>e=.returned (.int .u64 (u (wordT ⟨o,f,t⟩)))∧Below w.heap.size w w':=by
 have HS:=Lib.hid (rootL_small ⟨o,f,t⟩)
 have hq:(joinL (rootL ⟨o,f,t⟩)).2.1=wordT ⟨o,f,t⟩:=rfl
 have HQ:=Lib.hid hq
 clear hq
 generalize wordT ⟨o,f,t⟩=q at *
 have hv:IntKind.u64.wrap f=u (numFl 12 12 f).v:=u_conv f
 have hv2:IntKind.u64.wrap t=u (numFl 48 4 t).v:=u_conv t
 have X0:=BoxAt.new w #[.bool o,.int .i64 f,.int .i64 t] 167
 have x0:=X0.get 0 (.bool o) rfl
 have x1:=X0.get 1 (.int .i64 f) rfl
 have x2:=X0.get 2 (.int .i64 t) rfl
 clear X0
 go_enter Tryz.func110,Tryz.ntmps110
 go_wp2
 go_region_held3 (fun w'=>w'.cell? ⟨w.heap.size,0,none⟩=some (.bool o)∧w'.cell? ⟨w.heap.size,1,none⟩=some (.int .i64 f)∧w'.cell? ⟨w.heap.size,2,none⟩=some (.int .i64 t))
  (first | go_keep | (refine ⟨?_,?_,?_⟩<;>(repeat (first | with_reducible assumption | with_reducible refine kc_alloc ?_ _ | with_reducible refine kc_drew ?_ | (refine kc_below (by assumption) ?_)))))
  (first
   | (go_at_call 146;refine (on_any o f t _).mono ?_;rintro e w1 ⟨rfl,hb1⟩)
   | (go_at_call 145;refine (join_new (rootL ⟨o,f,t⟩) 3 _ _ rfl (by decide) rfl HS.out q HQ.out _ rfl).mono ?_;rintro e w2 ⟨rfl,hb2⟩))
 go_wp2
 go_ret
 exact ⟨rfl,bel_trans (bel_trans (Below.drew (bel_alloc (Below.refl w.heap.size w) _)) hb1) hb2⟩
set_option maxRecDepth 100000 in
theorem wholeR_any (o:Bool) (f t:Int) (v:BitVec 64) (w:World) :
  Calls Tryz.prog 239 #[.agg #[.bool o,.int .i64 f,.int .i64 t,.int .u64 (u v)]] w fun e w'=>e=.returned (.bool (decide (wordT ⟨o,f,t⟩=v)))∧Below w.heap.size w w':=by
 have HW:=Lib.hid (fun W=>swordR_any o f t W)
 generalize wordT ⟨o,f,t⟩=q at *
 rw [← u_beq]
 have X0:=BoxAt.new w #[.bool o,.int .i64 f,.int .i64 t,.int .u64 (u v)] 308
 have x0:=X0.get 0 (.bool o) rfl
 have x1:=X0.get 1 (.int .i64 f) rfl
 have x2:=X0.get 2 (.int .i64 t) rfl
 have x3:=X0.get 3 (.int .u64 (u v)) rfl
 clear X0
 go_enter Tryz.func239,Tryz.ntmps239
 go_wp2
 go_region_held3 (fun w'=>w'.cell? ⟨w.heap.size,0,none⟩=some (.bool o)∧w'.cell? ⟨w.heap.size,1,none⟩=some (.int .i64 f)∧w'.cell? ⟨w.heap.size,2,none⟩=some (.int .i64 t)∧w'.cell? ⟨w.heap.size,3,none⟩=some (.int .u64 (u v)))
  (first | go_keep | (refine ⟨?_,?_,?_,?_⟩<;>(repeat (first | with_reducible assumption | with_reducible refine kc_alloc ?_ _ | with_reducible refine kc_drew ?_ | (refine kc_below (by assumption) ?_)))))
  ((go_at_call 110;refine (HW.out _).mono ?_;rintro e w1 ⟨rfl,hb1⟩))
 go_wp2
 go_ret
 exact ⟨rfl,bel_trans (Below.drew (bel_alloc (Below.refl w.heap.size w) _)) hb1⟩
theorem rWord_any (o:Bool) (f t:Int) (w:World) (b:Bool) (hb:mayRt ⟨o,f,t⟩=b) (q:BitVec 64) (z:Int) (hq:(if b then wordT ⟨o,f,t⟩ else 0#64)=q) (hz:(if b then 0 else 1)=z) :
  Calls Tryz.prog 84 #[.agg #[.bool o,.int .i64 f,.int .i64 t]] w fun e w'=>e=.returned (.tuple #[.int .u64 (u q),.int .i64 z])∧Below w.heap.size w w':=by
 have HM:=Lib.hid (fun W=>smayBeR_any o f t W)
 have HW:=Lib.hid (fun W=>swordR_any o f t W)
 rw [hb] at HM
 clear hb
 generalize wordT ⟨o,f,t⟩=wt at *
 cases b
 ·simp only [Bool.false_eq_true,if_false] at hq hz
  subst hq hz
  have h0:u 0#64=0:=by decide
  rw [h0]
  clear h0
  go_enter Tryz.func84,Tryz.ntmps84
  go_wp2_with (go_at_call 109;refine (HM.out _).mono ?_;rintro e w1 ⟨rfl,hb1⟩)
  go_ret2
  exact ⟨rfl,bel_trans (by repeat' (first | exact Below.refl _ _ | refine bel_alloc ?_ _)) hb1⟩
 ·simp only [if_true] at hq hz
  subst hq hz
  have X0:=BoxAt.new (w.alloc (.cells #[.bool o,.int .i64 f,.int .i64 t] 33)) #[.bool o,.int .i64 f,.int .i64 t] 167
  rw [show (w.alloc (.cells #[.bool o,.int .i64 f,.int .i64 t] 33)).heap.size=w.heap.size+1 from by simp] at X0
  have HX:=Lib.hid X0
  clear X0
  go_enter Tryz.func84,Tryz.ntmps84
  go_wp2_with fail
  refine (HM.out _).mono ?_
  rintro e w1 ⟨rfl,hb1⟩
  have X1:=HX.out.below hb1
  have x0:=X1.get 0 (.bool o) rfl
  have x1:=X1.get 1 (.int .i64 f) rfl
  have x2:=X1.get 2 (.int .i64 t) rfl
  have HB1:=Lib.hid hb1
  clear X1 hb1
  go_wp2_with (go_at_call 110;refine (HW.out _).mono ?_;rintro e w2 ⟨rfl,hb2⟩)
  go_ret2
  exact ⟨rfl,bel_trans (bel_trans (by repeat' (first | exact Below.refl _ _ | refine bel_alloc ?_ _)) HB1.out) hb2⟩
end
section
open Go.ChangeShapes Go.WideShapes Go.ChangeAt Go.RowKit Go.Deep
set_option maxHeartbeats 1600000 in
theorem readR_any (v:BitVec 64) (w:World) :
  Calls Tryz.prog 238 #[.int .u64 (u v)] w fun e w'=>e=.returned (.agg #[.bool (readT v).o,.int .i64 (readT v).f,.int .i64 (readT v).t,.int .u64 (u v)])∧Below w.heap.size w w':=by
 have H0:=Lib.hid (fun o f t W=>fbitsR_any o f t v 0 1 W (by decide) (by decide))
 have H1:=Lib.hid (fun o f t W=>fbitsR_any o f t v 12 12 W (by decide) (by decide))
 have H2:=Lib.hid (fun o f t W=>fbitsR_any o f t v 48 4 W (by decide) (by decide))
 have he:readT v=⟨getN v 0 1==1,getN v 12 12,getN v 48 4⟩:=by unfold readT flagW;rw [beq_int]
 rw [he]
 clear he
 simp only
 generalize getN v 0 1=b0 at *
 generalize getN v 12 12=f0 at *
 generalize getN v 48 4=t0 at *
 obtain ⟨W0,hW0⟩:∃ W0,W0=w.alloc (.cells #[.bool false,.int .i64 0,.int .i64 0,.int .u64 0] 308):=⟨_,rfl⟩
 have HB0:=bel_alloc (Below.refl w.heap.size w) (.cells #[.bool false,.int .i64 0,.int .i64 0,.int .u64 0] 308)
 have A0:=Lib.hid ((BoxAt.new w #[.bool false,.int .i64 0,.int .i64 0,.int .u64 0] 308).alloc (.cells #[.bool false,.int .i64 0,.int .i64 0,.int .u64 (u v)] 308))
 have hsz:W0.heap.size=w.heap.size+1:=by rw [hW0];simp
 have R0:=Lib.hid (BoxAt.new W0 #[.bool false,.int .i64 0,.int .i64 0,.int .u64 (u v)] 308)
 rw [hsz,hW0] at R0
 rw [← hW0] at HB0
 have B0:=Lib.hid (bel_alloc HB0 (.cells #[.bool false,.int .i64 0,.int .i64 0,.int .u64 (u v)] 308))
 rw [hW0] at B0
 clear hsz hW0 W0 HB0
 go_enter Tryz.func238,Tryz.ntmps238
 go_wp2_with fail
 refine (H0.out _ _ _ _).mono ?_
 rintro e w1 ⟨rfl,hb1⟩
 have A1:=Lib.hid (A0.out.below hb1)
 have R1:=R0.out.below hb1
 have B1:=Lib.hid (bel_trans B0.out hb1)
 clear A0 R0 B0 hb1
 have r0:=R1.get 0 (.bool false) rfl
 have r1:=R1.get 1 (.int .i64 0) rfl
 have r2:=R1.get 2 (.int .i64 0) rfl
 have r3:=R1.get 3 (.int .u64 (u v)) rfl
 have z0:=R1.free 0
 have R2:=Lib.hid (R1.set 0 (.bool (b0==1)) #[.bool (b0==1),.int .i64 0,.int .i64 0,.int .u64 (u v)] rfl)
 have A2:=Lib.hid (A1.out.other ⟨w.heap.size+1,0,none⟩ (.bool (b0==1)) (by simp))
 have B2:=Lib.hid (Below.setCell B1.out (p:=⟨w.heap.size+1,0,none⟩) (by simp) (.bool (b0==1)))
 clear R1 A1 B1
 go_wp2_with fail
 refine (H1.out _ _ _ _).mono ?_
 rintro e w2 ⟨rfl,hb2⟩
 clear r0 r1 r2 r3 z0
 have A3:=Lib.hid (A2.out.below hb2)
 have R3:=R2.out.below hb2
 have B3:=Lib.hid (bel_trans B2.out hb2)
 clear A2 R2 B2 hb2
 have r0:=R3.get 0 (.bool (b0==1)) rfl
 have r1:=R3.get 1 (.int .i64 0) rfl
 have r2:=R3.get 2 (.int .i64 0) rfl
 have r3:=R3.get 3 (.int .u64 (u v)) rfl
 have z1:=R3.free 1
 have R4:=Lib.hid (R3.set 1 (.int .i64 f0) #[.bool (b0==1),.int .i64 f0,.int .i64 0,.int .u64 (u v)] rfl)
 have A4:=Lib.hid (A3.out.other ⟨w.heap.size+1,1,none⟩ (.int .i64 f0) (by simp))
 have B4:=Lib.hid (Below.setCell B3.out (p:=⟨w.heap.size+1,1,none⟩) (by simp) (.int .i64 f0))
 clear R3 A3 B3
 go_wp2_with fail
 refine (H2.out _ _ _ _).mono ?_
 rintro e w3 ⟨rfl,hb3⟩
 clear r0 r1 r2 r3 z1
 have A5:=A4.out.below hb3
 have R5:=R4.out.below hb3
 have B5:=Lib.hid (bel_trans B4.out hb3)
 clear A4 R4 B4 hb3
 have r0:=R5.get 0 (.bool (b0==1)) rfl
 have r1:=R5.get 1 (.int .i64 f0) rfl
 have r2:=R5.get 2 (.int .i64 0) rfl
 have r3:=R5.get 3 (.int .u64 (u v)) rfl
 have z2:=R5.free 2
 have a0:=A5.get 0 (.bool false) rfl
 have a1:=A5.get 1 (.int .i64 0) rfl
 have a2:=A5.get 2 (.int .i64 0) rfl
 have a3:=A5.get 3 (.int .u64 0) rfl
 have y0:=A5.free 0
 have y1:=A5.free 1
 have y2:=A5.free 2
 have y3:=A5.free 3
 clear A5 R5
 go_wp2
 refine bodyPost_ret (v:=.agg #[.bool (b0==1),.int .i64 f0,.int .i64 t0,.int .u64 (u v)]) (by simp [results,Tryz.results238,go_sem,a0,a1,a2,a3]) rfl ⟨rfl,?_⟩
 repeat' (first | with_reducible exact B5.out | with_reducible refine Below.setCell ?_ (by first | (simp;done) | (simp;omega)) _)
def ofT (v:BitVec 64):Rt:=if isT v then readT v else rz
theorem rOf_no (v:BitVec 64) (w:World) (hi:isT v=false) :
  Calls Tryz.prog 193 #[.int .u64 (u v)] w fun e w'=>e=.returned (.tuple #[.agg #[.bool false,.int .i64 0,.int .i64 0],.int .i64 9])∧Below w.heap.size w w':=by
 have HR:=Lib.hid (fun W=>readR_any v W)
 have HW:=Lib.hid (fun W=>wholeR_any (readT v).o (readT v).f (readT v).t v W)
 have hw:decide (wordT ⟨(readT v).o,(readT v).f,(readT v).t⟩=v)=isT v:=rfl
 rw [hw,hi] at HW
 clear hw hi
 generalize readT v=r at *
 obtain ⟨o,f,t⟩:=r
 simp only at HR HW
 have A0:=Lib.hid (BoxAt.new w #[.bool false,.int .i64 0,.int .i64 0] 33)
 have B0:=Lib.hid (bel_alloc (Below.refl w.heap.size w) (.cells #[.bool false,.int .i64 0,.int .i64 0] 33))
 go_enter Tryz.func193,Tryz.ntmps193
 go_wp2_with fail
 refine (HR.out _).mono ?_
 rintro e w1 ⟨rfl,hb1⟩
 have A1:=A0.out.below hb1
 have A2:=Lib.hid (A1.alloc (.cells #[.bool o,.int .i64 f,.int .i64 t,.int .u64 (u v)] 308))
 have B2:=Lib.hid (bel_alloc (bel_trans B0.out hb1) (.cells #[.bool o,.int .i64 f,.int .i64 t,.int .u64 (u v)] 308))
 clear A0 B0 A1 hb1
 go_wp2_with fail
 refine (HW.out _).mono ?_
 rintro e w2 ⟨rfl,hb2⟩
 have A3:=A2.out.below hb2
 have B3:=Lib.hid (bel_trans B2.out hb2)
 clear A2 B2 hb2
 have a0:=A3.get 0 (.bool false) rfl
 have a1:=A3.get 1 (.int .i64 0) rfl
 have a2:=A3.get 2 (.int .i64 0) rfl
 have y0:=A3.free 0
 have y1:=A3.free 1
 have y2:=A3.free 2
 clear A3
 go_wp2
 refine bodyPost_ret (v:=.tuple #[.agg #[.bool false,.int .i64 0,.int .i64 0],.int .i64 9]) (by simp [results,Tryz.results193,go_sem,a0,a1,a2]) rfl ⟨rfl,?_⟩
 repeat' (first | with_reducible exact B3.out | with_reducible refine Below.setCell ?_ (by first | (simp;done) | (simp;omega)) _)
theorem rOf_yes (v:BitVec 64) (w:World) (hi:isT v=true) :
  Calls Tryz.prog 193 #[.int .u64 (u v)] w fun e w'=>e=.returned (.tuple #[.agg #[.bool (readT v).o,.int .i64 (readT v).f,.int .i64 (readT v).t],.int .i64 0])∧Below w.heap.size w w':=by
 have HR:=Lib.hid (fun W=>readR_any v W)
 have HW:=Lib.hid (fun W=>wholeR_any (readT v).o (readT v).f (readT v).t v W)
 have hw:decide (wordT ⟨(readT v).o,(readT v).f,(readT v).t⟩=v)=isT v:=rfl
 rw [hw,hi] at HW
 clear hw hi
 generalize readT v=r at *
 obtain ⟨o,f,t⟩:=r
 simp only at HR HW
 simp only
 have A0:=Lib.hid (BoxAt.new w #[.bool false,.int .i64 0,.int .i64 0] 33)
 have B0:=Lib.hid (bel_alloc (Below.refl w.heap.size w) (.cells #[.bool false,.int .i64 0,.int .i64 0] 33))
 go_enter Tryz.func193,Tryz.ntmps193
 go_wp2_with fail
 refine (HR.out _).mono ?_
 rintro e w1 ⟨rfl,hb1⟩
 have A1:=A0.out.below hb1
 have A2:=Lib.hid (A1.alloc (.cells #[.bool o,.int .i64 f,.int .i64 t,.int .u64 (u v)] 308))
 have F2:=Lib.hid (BoxAt.new w1 #[.bool o,.int .i64 f,.int .i64 t,.int .u64 (u v)] 308)
 have B2:=Lib.hid (bel_alloc (bel_trans B0.out hb1) (.cells #[.bool o,.int .i64 f,.int .i64 t,.int .u64 (u v)] 308))
 clear A0 B0 A1 hb1
 go_wp2_with fail
 refine (HW.out _).mono ?_
 rintro e w2 ⟨rfl,hb2⟩
 have A3:=A2.out.below hb2
 have F3:=F2.out.below hb2
 have B3:=Lib.hid (bel_trans B2.out hb2)
 clear A2 F2 B2 hb2
 have a0:=A3.get 0 (.bool false) rfl
 have a1:=A3.get 1 (.int .i64 0) rfl
 have a2:=A3.get 2 (.int .i64 0) rfl
 have y0:=A3.free 0
 have y1:=A3.free 1
 have y2:=A3.free 2
 have f0:=F3.get 0 (.bool o) rfl
 have f1:=F3.get 1 (.int .i64 f) rfl
 have f2:=F3.get 2 (.int .i64 t) rfl
 clear A3 F3
 go_wp2
 refine bodyPost_ret (v:=.tuple #[.agg #[.bool o,.int .i64 f,.int .i64 t],.int .i64 0]) (by simp [results,Tryz.results193,go_sem,a0,a1,a2]) rfl ⟨rfl,?_⟩
 repeat' (first | with_reducible exact B3.out | with_reducible refine Below.setCell ?_ (by first | (simp;done) | (simp;omega)) _)
theorem rOf_any (v:BitVec 64) (w:World) (b:Bool) (hi:isT v=b) (r:Rt) (hr:ofT v=r) (z:Int) (hz:(if b then 0 else 9)=z) :
  Calls Tryz.prog 193 #[.int .u64 (u v)] w fun e w'=>e=.returned (.tuple #[.agg #[.bool r.o,.int .i64 r.f,.int .i64 r.t],.int .i64 z])∧Below w.heap.size w w':=by
 subst hr hz
 unfold ofT
 rw [hi]
 cases b
 ·exact rOf_no v w hi
 ·exact rOf_yes v w hi
end
end Go.Proofs.YtlgpdbgingjpbaaGreat
