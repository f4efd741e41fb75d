/- The contract of the reference's Join. The reference's Word: contracts. Roots,plainly: which may be,their words,what a word is. The small functions of package root and of its reference: contracts. Reading words (package desc),and the reference's Of: contracts. -/
import Derived.Test.YtlgpdbgingjpbaaGreatLy
import Derived.Test.YtlgpdbgingjpbaaGreatDd
import Derived.Test.YtlgpdbgingjpbaaGreatHb
import Derived.Test.YtlgpdbgingjpbaaGreatHa
import Derived.Test.YtlgpdbgingjpbaaGreatGa
set_option linter.all false
namespace Go.Proofs.YtlgpdbgingjpbaaGreat
section
open Go.ChangeShapes Go.WideShapes Go.ChangeAt Go.RowKit Go.Deep
end
section
open Go.ChangeShapes Go.WideShapes Go.ChangeAt Go.RowKit Go.Deep
end
section
open Go.ChangeShapes Go.WideShapes Go.ChangeAt Go.RowKit Go.Deep
structure Rt where
 o:Bool
 f:Int
 t:Int
deriving DecidableEq
def rz:Rt:=⟨false,0,0⟩
def eqT (a b:Rt):Bool:=decide (a=b)
def mayRt (r:Rt):Bool:=numB r.f 4095&&numB r.t 15
def rootL (r:Rt):List Fld:=[bitFl 0 r.o,numFl 12 12 r.f,numFl 48 4 r.t]
def wordT (r:Rt):BitVec 64:=(joinL (rootL r)).2.1
def readT (v:BitVec 64):Rt:=⟨flagW v 0,getN v 12 12,getN v 48 4⟩
def isT (v:BitVec 64):Bool:=decide (wordT (readT v)=v)
theorem rootL_small (r:Rt):SmallL (rootL r):=by
 intro x hx
 simp only [rootL,List.mem_cons,List.not_mem_nil,or_false] at hx
 rcases hx with rfl | rfl | rfl
 ·exact small_bit _ _ (by decide) (by decide)
 ·exact small_num _ _ _ (by decide) (by decide) (by decide) (by decide)
 ·exact small_num _ _ _ (by decide) (by decide) (by decide) (by decide)
theorem eq_root (o:Bool) (f t:Int) (o':Bool) (f' t':Int) (w:World) :
  (Op.equalIn 10000 33 (.agg #[.bool o,.int .i64 f,.int .i64 t]) (.agg #[.bool o',.int .i64 f',.int .i64 t'])).run Tryz.prog w=.ok (eqT ⟨o,f,t⟩ ⟨o',f',t'⟩) w:=by
 rw [run_equalIn_agg w 9999 _ _ _ (by kernel_rfl) (by kernel_rfl)]
 simp only [Program.fieldsOf,Tryz.underlying33]
 simp [go_sem,eqT]
 by_cases h1:o=o'
 rotate_left
 ·simp [h1]
 by_cases h2:f=f'
 rotate_left
 ·simp [h1,h2]
 by_cases h3:t=t'
 rotate_left
 ·simp [h1,h2,h3]
 simp [h1,h2,h3]
@[go_sem high] theorem eql_root (o:Bool) (f t:Int) (o':Bool) (f' t':Int) (w:World) :
  (binOp .eql 33 (.agg #[.bool o,.int .i64 f,.int .i64 t]) (.agg #[.bool o',.int .i64 f',.int .i64 t'])).run Tryz.prog w=.ok (.bool (eqT ⟨o,f,t⟩ ⟨o',f',t'⟩)) w:=by
 rw [run_eql_struct,eq_root];rfl
@[go_sem high] theorem neq_root (o:Bool) (f t:Int) (o':Bool) (f' t':Int) (w:World) :
  (binOp .neq 33 (.agg #[.bool o,.int .i64 f,.int .i64 t]) (.agg #[.bool o',.int .i64 f',.int .i64 t'])).run Tryz.prog w=.ok (.bool (!eqT ⟨o,f,t⟩ ⟨o',f',t'⟩)) w:=by
 rw [run_neq_struct,eq_root];rfl
end
section
open Go.ChangeShapes Go.WideShapes Go.ChangeAt Go.RowKit Go.Deep
theorem isUpTo_any (p m:Int) (w:World) :
  Calls Tryz.prog 144 #[.int .i64 p,.int .i64 m] w fun e w'=>e=.returned (.bool (numB p m))∧w=w':=by
 go_enter Tryz.func144,Tryz.ntmps144
 go_wp2
 all_goals
  go_ret
  refine ⟨ret_bool ?_,rfl⟩
  unfold numB
  rw [Bool.eq_iff_iff]
  simp
  omega
theorem smayBeR_any (o:Bool) (f t:Int) (w:World) :
  Calls Tryz.prog 109 #[.agg #[.bool o,.int .i64 f,.int .i64 t]] w fun e w'=>e=.returned (.bool (mayRt ⟨o,f,t⟩))∧Below w.heap.size w w':=by
 have hm:mayRt ⟨o,f,t⟩=(numB f 4095&&numB t 15):=rfl
 rw [hm]
 have HF:=Lib.hid (fun W=>isUpTo_any f 4095 W)
 have HT:=Lib.hid (fun W=>isUpTo_any t 15 W)
 clear hm
 generalize numB f 4095=a at *
 generalize numB t 15=b at *
 cases a
 ·go_enter Tryz.func109,Tryz.ntmps109
  go_wp2_with fail
  refine (HF.out _).mono ?_
  rintro e w' ⟨rfl,rfl⟩
  go_wp2
  go_ret
  exact ⟨rfl,by go_grown⟩
 ·go_enter Tryz.func109,Tryz.ntmps109
  go_wp2_with fail
  refine (HF.out _).mono ?_
  rintro e w' ⟨rfl,rfl⟩
  go_wp2_with fail
  refine (HT.out _).mono ?_
  rintro e w' ⟨rfl,rfl⟩
  go_wp2
  go_ret
  exact ⟨rfl,by go_grown⟩
theorem on_any (o:Bool) (f t:Int) (w:World) :
  Calls Tryz.prog 146 #[.agg #[.bool o,.int .i64 f,.int .i64 t]] w fun e w'=>e=.returned (.int .u64 (u (bitFl 0 o).v))∧Below w.heap.size w w':=by
 have h1:u (bitFl 0 true).v=1:=by show u 1#64=1;decide
 have h0:u (bitFl 0 false).v=0:=by show u 0#64=0;decide
 cases o
 ·rw [h0]
  clear h1 h0
  go_enter Tryz.func146,Tryz.ntmps146
  go_wp2
  go_ret
  exact ⟨rfl,by go_grown⟩
 ·rw [h1]
  clear h1 h0
  go_enter Tryz.func146,Tryz.ntmps146
  go_wp2
  go_ret
  exact ⟨rfl,by go_grown⟩
theorem fbitsR_any (o:Bool) (f t:Int) (v:BitVec 64) (p m:Int) (w:World) (h:okB p m=true) (hm:m≤12) :
  Calls Tryz.prog 265 #[.agg #[.bool o,.int .i64 f,.int .i64 t,.int .u64 (u v)],.int .i64 p,.int .i64 m] w fun e w'=>e=.returned (.int .i64 (getN v p m))∧Below w.heap.size w w':=by
 obtain ⟨h0,h1,h2⟩:=okB_true h
 have hb:=getN_bd v p m (by omega) hm
 have HG:=Lib.hid (fun W=>get_yes v p m W h)
 have he:u (v >>> p.toNat&&& msk m)=getN v p m:=rfl
 rw [he] at HG
 clear he h h0 h1 h2
 generalize getN v p m=g at *
 obtain ⟨hb0,hb1⟩:=hb
 go_enter Tryz.func265,Tryz.ntmps265
 go_wp2_with fail
 refine (HG.out _).mono ?_
 rintro e w' ⟨rfl,rfl⟩
 go_wp2
 go_ret
 exact ⟨rfl,by go_grown⟩
end
section
open Go.ChangeShapes Go.WideShapes Go.ChangeAt Go.RowKit Go.Deep
theorem number_any (v:BitVec 64) (p m:Int) (w:World) (h:okB p m=true) (hm:m≤12) :
  Calls Tryz.prog 333 #[.int .u64 (u v),.int .i64 p,.int .i64 m] w fun e w'=>e=.returned (.int .i64 (getN v p m))∧Below w.heap.size w w':=by
 obtain ⟨h0,h1,h2⟩:=okB_true h
 have hb:=getN_bd v p m (by omega) hm
 have HG:=Lib.hid (get_yes v p m w h)
 have he:u (v >>> p.toNat&&& msk m)=getN v p m:=rfl
 rw [he] at HG
 clear he h h0 h1 h2
 generalize getN v p m=g at *
 obtain ⟨hb0,hb1⟩:=hb
 go_enter Tryz.func333,Tryz.ntmps333
 go_wp2_with fail
 refine HG.out.mono ?_
 rintro e w' ⟨rfl,rfl⟩
 go_wp2
 go_ret
 exact ⟨rfl,by go_grown⟩
theorem flag_any (v:BitVec 64) (p:Int) (w:World) (h0:0≤p) (h1:p≤63) :
  Calls Tryz.prog 343 #[.int .u64 (u v),.int .i64 p] w fun e w'=>e=.returned (.bool (flagW v p))∧Below w.heap.size w w':=by
 have HN:=Lib.hid (number_any v p 1 w (by unfold okB;exact decide_eq_true ⟨h0,by omega,by omega⟩) (by omega))
 have hf:flagW v p=(getN v p 1==1):=(beq_int _ _).symm
 rw [hf]
 clear hf
 generalize getN v p 1=g at *
 go_enter Tryz.func343,Tryz.ntmps343
 go_wp2_with fail
 refine HN.out.mono ?_
 rintro e w' ⟨rfl,hb⟩
 go_wp2
 go_ret
 exact ⟨rfl,hb⟩
theorem kind_any (st lv:Int) (v:BitVec 64) (w:World) :
  Calls Tryz.prog 332 #[.agg #[.int .i64 st,.int .i64 lv],.int .u64 (u v)] w fun e w'=>e=.returned (.int .i64 (kindD lv v))∧Below w.heap.size w w':=by
 have HF:=Lib.hid (fun W=>flag_any v 0 W (by decide) (by decide))
 have HG:=Lib.hid (fun W=>flag_any v 1 W (by decide) (by decide))
 have hk:kindD lv v=if flagW v 0=false then 0 else if flagW v 1=true∧lv≠3 then 1 else 2:=rfl
 have HK:=Lib.hid hk
 clear hk
 generalize kindD lv v=kk at *
 generalize flagW v 0=f0 at *
 generalize flagW v 1=f1 at *
 cases f0
 ·have HK':=Lib.hid (HK.out.trans (if_pos rfl))
  clear HK HG
  go_enter Tryz.func332,Tryz.ntmps332
  go_wp2_with (go_at_call 343;refine (HF.out _).mono ?_;rintro e w' ⟨rfl,hb1⟩)
  go_ret
  rw [HK'.out]
  exact ⟨rfl,bel_trans (bel_alloc (Below.refl _ _) _) hb1⟩
 ·have HK':=Lib.hid (HK.out.trans (if_neg (by decide)))
  clear HK
  have hBX:=Lib.hid (BoxAt.new w #[.int .i64 st,.int .i64 lv] 376)
  cases f1
  ·have HK2:=Lib.hid (HK'.out.trans (if_neg (fun h=>by cases h.1)))
   clear HK'
   go_enter Tryz.func332,Tryz.ntmps332
   go_wp2_with fail
   refine (HF.out _).mono ?_
   rintro e w1 ⟨rfl,hb1⟩
   go_wp2_with (go_at_call 343;refine (HG.out _).mono ?_;rintro e w' ⟨rfl,hb2⟩)
   go_ret
   rw [HK2.out]
   exact ⟨rfl,bel_trans (bel_trans (bel_alloc (Below.refl _ _) _) hb1) hb2⟩
  ·by_cases h3:lv=3
   ·subst h3
    have HK2:=Lib.hid (HK'.out.trans (if_neg (fun h=>h.2 rfl)))
    clear HK'
    go_enter Tryz.func332,Tryz.ntmps332
    go_wp2_with fail
    refine (HF.out _).mono ?_
    rintro e w1 ⟨rfl,hb1⟩
    have hX1:=Lib.hid (hBX.out.below hb1)
    go_wp2_with fail
    refine (HG.out _).mono ?_
    rintro e w2 ⟨rfl,hb2⟩
    have v1:=(hX1.out.below hb2).cell 1
    simp only [List.getElem?_toArray,List.getElem?_cons_zero,List.getElem?_cons_succ] at v1
    go_wp2
    go_ret
    rw [HK2.out]
    exact ⟨rfl,bel_trans (bel_trans (bel_alloc (Below.refl _ _) _) hb1) hb2⟩
   ·have HK2:=Lib.hid (HK'.out.trans (if_pos ⟨rfl,h3⟩))
    have t3:(lv != 3)=true:=by simpa using h3
    clear HK' h3
    go_enter Tryz.func332,Tryz.ntmps332
    go_wp2_with fail
    refine (HF.out _).mono ?_
    rintro e w1 ⟨rfl,hb1⟩
    have hX1:=Lib.hid (hBX.out.below hb1)
    go_wp2_with fail
    refine (HG.out _).mono ?_
    rintro e w2 ⟨rfl,hb2⟩
    have v1:=(hX1.out.below hb2).cell 1
    simp only [List.getElem?_toArray,List.getElem?_cons_zero,List.getElem?_cons_succ] at v1
    go_wp2
    go_ret
    rw [HK2.out]
    exact ⟨rfl,bel_trans (bel_trans (bel_alloc (Below.refl _ _) _) hb1) hb2⟩
end
end Go.Proofs.YtlgpdbgingjpbaaGreat
