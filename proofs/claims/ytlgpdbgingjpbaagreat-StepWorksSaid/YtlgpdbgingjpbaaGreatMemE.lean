/- Contracts: allows,hasAll,Check,Frames of package mem;the law's there. Contracts: Read,New,Frame of package mem;Read of the reference. Stage 5: what the program's calls are held against;the law's small calls;its argument,opened. Two stages plainly: Trans;rows of numbers that are appended. Stage 7: what the program's calls are held against;the argument,opened;the law's small calls. Contracts: put,Write of package mem;Put,Write of the reference. -/
import Derived.Test.YtlgpdbgingjpbaaGreatMemB
import Derived.Test.YtlgpdbgingjpbaaGreatNa
import Derived.Test.YtlgpdbgingjpbaaGreatVp
import Derived.Test.YtlgpdbgingjpbaaGreatSq
import Derived.Deep.CutBlock
import Derived.Test.YtlgpdbgingjpbaaGreatLt
set_option linter.all false
namespace Go.Proofs.YtlgpdbgingjpbaaGreat
section
open Go.ChangeShapes Go.WideShapes Go.ChangeAt Go.RowKit Go.Deep
theorem allows_noM (f:Option Addr) (l c:Nat) (a s:Int) (w:World) (h:okM l=false) :
  Calls Tryz.prog 155 #[.agg #[.slice f l c],.agg #[.int .i64 a,.int .i64 s]] w fun e w'=>e=.returned (.int .i64 1)∧Below w.heap.size w w':=by
 go_enter Tryz.func155,Tryz.ntmps155
 go_wp2_with (go_at_call 107;refine (bmay_any _ _ _ _).mono ?_;rintro e w' ⟨rfl,rfl⟩)
 go_ret
 exact ⟨rfl,by go_grown⟩
theorem allows_noS (f:Option Addr) (l c:Nat) (a s:Int) (w:World) (h:okM l=true) (hs:okS s=false) :
  Calls Tryz.prog 155 #[.agg #[.slice f l c],.agg #[.int .i64 a,.int .i64 s]] w fun e w'=>e=.returned (.int .i64 1)∧Below w.heap.size w w':=by
 go_enter Tryz.func155,Tryz.ntmps155
 go_wp2_with (first
  | (go_at_call 107;refine (bmay_any _ _ _ _).mono ?_;rintro e w' ⟨rfl,rfl⟩)
  | (go_at_call 200;refine (pmay_any _ _ _).mono ?_;rintro e w' ⟨rfl,rfl⟩))
 go_ret
 exact ⟨rfl,by go_grown⟩
theorem allows_neg (f:Option Addr) (l c:Nat) (a s:Int) (w:World) (h:okM l=true) (hs:okS s=true) (ha:a < 0) :
  Calls Tryz.prog 155 #[.agg #[.slice f l c],.agg #[.int .i64 a,.int .i64 s]] w fun e w'=>e=.returned (.int .i64 2)∧Below w.heap.size w w':=by
 have hd:decide (a < 0)=true:=decide_eq_true ha
 go_enter Tryz.func155,Tryz.ntmps155
 go_wp2_with (first
  | (go_at_call 107;refine (bmay_any _ _ _ _).mono ?_;rintro e w' ⟨rfl,rfl⟩)
  | (go_at_call 200;refine (pmay_any _ _ _).mono ?_;rintro e w' ⟨rfl,rfl⟩))
 first | (go_region_with (first | fail)) | skip
 go_wp2
 all_goals
  go_ret
  exact ⟨rfl,by go_grown⟩
theorem allows_pos (f:Option Addr) (l c:Nat) (a s:Int) (w:World) (h:okM l=true) (hs:okS s=true) (ha:0≤a) :
  Calls Tryz.prog 155 #[.agg #[.slice f l c],.agg #[.int .i64 a,.int .i64 s]] w fun e w'=>e=.returned (.int .i64 (mayM l a s))∧Below w.heap.size w w':=by
 have hd:decide (a < 0)=false:=decide_eq_false (by omega)
 obtain ⟨l1,l2,l3⟩:=okM_true h
 go_enter Tryz.func155,Tryz.ntmps155
 go_wp2_with (go_at_call 107;refine (bmay_any _ _ _ _).mono ?_;rintro e w' ⟨rfl,rfl⟩)
 refine (pmay_any _ _ _).mono ?_
 rintro e w2 ⟨rfl,hw2⟩
 have L0:Loc w2 w.heap.size 0 (.slice f l c):=by rw [hw2];exact (((Loc.new w _ _ _ 0 _ rfl rfl).alloc _).alloc _).alloc _
 have L1:Loc w2 (w.heap.size+1) 0 (.int .i64 a):=by rw [hw2];exact ((Loc.new _ _ _ _ 0 _ (by simp) rfl).alloc _).alloc _
 have L2:Loc w2 (w.heap.size+1) 1 (.int .i64 s):=by rw [hw2];exact ((Loc.new _ _ _ _ 1 _ (by simp) rfl).alloc _).alloc _
 have hB:Below w.heap.size w w2:=by rw [hw2];go_grown
 have c0:=L0.cell
 have c1:=L1.cell
 have c2:=L2.cell
 have HB:=Lib.hid hB
 clear hw2 L0 L1 L2 hB
 go_wp2_with fail
 go_region_held3 (fun w'=>w'.cell? ⟨w.heap.size,0,none⟩=some (.slice f l c)∧w'.cell? ⟨w.heap.size+1,0,none⟩=some (.int .i64 a)∧w'.cell? ⟨w.heap.size+1,1,none⟩=some (.int .i64 s)) (go_keep)
  (first | (go_at_call 201;refine (bbytes_any _ _ _ _ (by omega)).mono ?_;rintro e w' ⟨rfl,rfl⟩))
 rename_i hHeld
 obtain ⟨k0,k1,k2⟩:=hHeld
 have HB3:=Lib.hid (Below.drew (bel_alloc HB.out (.cells #[.slice f l c] 143)))
 by_cases hb:(l:Int) * 8≤a
 ·have E:Hid (mayM l a s=2):=by unfold mayM;rw [if_neg (by simp [hs]),if_pos (.inr (by omega))];rfl
  go_wp2
  go_ret
  exact ⟨ret_int E.out.symm,HB3.out⟩
 ·by_cases hq:a % s=0
  ·have hq':(a % s != 0)=false:=by simpa using hq
   have E:Hid (mayM l a s=0):=by unfold mayM;rw [if_neg (by simp [hs]),if_neg (by omega),if_neg (fun h=>h hq)];rfl
   rcases okS_true hs with rfl | rfl | rfl | rfl
   all_goals
    clear hq hs
    go_wp2
    go_ret
    exact ⟨ret_int E.out.symm,HB3.out⟩
  ·have hq':(a % s != 0)=true:=by simpa using hq
   have E:Hid (mayM l a s=8):=by unfold mayM;rw [if_neg (by simp [hs]),if_neg (by omega),if_pos hq];rfl
   rcases okS_true hs with rfl | rfl | rfl | rfl
   ·omega
   all_goals
    clear hq hs
    go_wp2
    go_ret
    exact ⟨ret_int E.out.symm,HB3.out⟩
theorem allows_any (f:Option Addr) (l c:Nat) (a s:Int) (w:World) :
  Calls Tryz.prog 155 #[.agg #[.slice f l c],.agg #[.int .i64 a,.int .i64 s]] w fun e w'=>e=.returned (.int .i64 (if okM l=true then mayM l a s else 1))∧Below w.heap.size w w':=by
 by_cases h:okM l=true
 ·rw [if_pos h]
  by_cases hs:okS s=true
  ·by_cases ha:a < 0
   ·have e:mayM l a s=2:=by unfold mayM;rw [if_neg (by simp [hs]),if_pos (.inl ha)]
    rw [e]
    exact allows_neg f l c a s w h hs ha
   ·exact allows_pos f l c a s w h hs (by omega)
  ·have hs':okS s=false:=by simpa using hs
   have e:mayM l a s=1:=by unfold mayM;rw [if_pos hs']
   rw [e]
   exact allows_noS f l c a s w h hs'
 ·rw [if_neg h]
  exact allows_noM f l c a s w (by simpa using h)
theorem mcheck_any (f:Option Addr) (l c:Nat) (w:World) :
  Calls Tryz.prog 80 #[.agg #[.slice f l c]] w fun e w'=>e=.returned (.int .i64 (if okM l=true then 0 else 1))∧Below w.heap.size w w':=by
 cases h:okM l
 all_goals
  go_enter Tryz.func80,Tryz.ntmps80
  go_wp2_with (go_at_call 107;refine (bmay_any _ _ _ _).mono ?_;rintro e w' ⟨rfl,rfl⟩)
  go_ret
  exact ⟨rfl,by go_grown⟩
theorem frames_any (f:Option Addr) (l c:Nat) (w:World) :
  Calls Tryz.prog 57 #[.agg #[.slice f l c]] w fun e w'=>e=.returned (if okM l=true then .tuple #[.int .i64 ((l:Int) / 8),.int .i64 0] else .tuple #[.int .i64 0,.int .i64 1])∧Below w.heap.size w w':=by
 have L0:Loc (w.alloc (.cells #[.slice f l c] 24)) w.heap.size 0 (.slice f l c):=Loc.new w _ _ _ 0 _ rfl rfl
 have hb1:Below w.heap.size w (w.alloc (.cells #[.slice f l c] 24)):=bel_alloc (Below.refl _ _) _
 have HL:=Lib.hid L0
 have HB:=Lib.hid hb1
 clear L0 hb1
 cases h:okM l
 ·go_enter Tryz.func57,Tryz.ntmps57
  go_wp2_with fail
  refine (mcheck_any _ _ _ _).mono ?_
  rw [h]
  rintro e w1 ⟨rfl,hb⟩
  go_wp2
  go_ret2
  exact ⟨rfl,bel_trans HB.out hb⟩
 ·obtain ⟨l1,l2,l3⟩:=okM_true h
  go_enter Tryz.func57,Tryz.ntmps57
  go_wp2_with fail
  refine (mcheck_any _ _ _ _).mono ?_
  rw [h]
  rintro e w1 ⟨rfl,hb⟩
  have c1:=(HL.out.below hb).cell
  go_wp2_with (go_at_call 81;refine (bframes_any _ _ _ _ (by omega)).mono ?_;rintro e w2 ⟨rfl,rfl⟩)
  go_ret2
  exact ⟨rfl,bel_alloc (bel_trans HB.out hb) _⟩
end
section
open Go.ChangeShapes Go.WideShapes Go.ChangeAt Go.RowKit Go.Deep
theorem mayE_zero {l:Nat} {a s:Int} (h:mayM l a s=0):okS s=true∧0≤a∧a < 8 * (l:Int)∧a % s=0:=by
 unfold mayM at h
 split at h
 ·omega
 ·split at h
  ·omega
  ·split at h
   ·omega
   ·rename_i h1 h2 h3
    refine ⟨by simpa using h1,by omega,by omega,by simpa using h3⟩
def rdV (X:Nat→BitVec 64) (a s:Int):BitVec 64:=X (a / 8).toNat >>> (a % 8 * 8).toNat&&& msk (8 * s)
theorem read_ok (f:Option Addr) (l c:Nat) (X:Nat→BitVec 64) (a s:Int) (w:World) (hX:WordsAt w f l X) (hM:okM l=true) (hE:mayM l a s=0) :
  Calls Tryz.prog 116 #[.agg #[.slice f l c],.int .i64 a,.int .i64 s] w fun e w'=>e=.returned (.tuple #[.int .u64 (u (rdV X a s)),.int .i64 0])∧Below w.heap.size w w':=by
 obtain ⟨hs,a0,a1,a2⟩:=mayE_zero hE
 obtain ⟨l1,l2,l3⟩:=okM_true hM
 have hs1:=okS_true hs
 obtain ⟨W,hW⟩:∃ W,W=((w.alloc (.cells #[.slice f l c] 24)).alloc (.cells #[.slice f l c] 143)).alloc (.cells #[.int .i64 a,.int .i64 s] 214):=⟨_,rfl⟩
 have hb1:Below w.heap.size w W:=by rw [hW];exact bel_alloc (bel_alloc (bel_alloc (Below.refl w.heap.size w) _) _) _
 have L1:Loc W (w.heap.size+1) 0 (.slice f l c):=by rw [hW];exact (Loc.new _ _ _ _ 0 _ (by simp) rfl).alloc _
 have L2:Loc W (w.heap.size+1+1) 0 (.int .i64 a):=by rw [hW];exact Loc.new _ _ _ _ 0 _ (by simp) rfl
 have L3:Loc W (w.heap.size+1+1) 1 (.int .i64 s):=by rw [hW];exact Loc.new _ _ _ _ 1 _ (by simp) rfl
 have H:=allows_any f l c a s W
 rw [if_pos hM,hE] at H
 have HH:=Lib.hid H
 have HX:=Lib.hid (hX.below hb1)
 clear H hX
 go_enter Tryz.func116,Tryz.ntmps116
 go_wp2_with fail
 rw [← hW]
 refine HH.out.mono ?_
 rintro e w1 ⟨rfl,hb⟩
 have c1:=(L1.below hb).cell
 have c2:=(L2.below hb).cell
 have c3:=(L3.below hb).cell
 obtain ⟨b,o,rfl,hc⟩:=HX.out (a / 8).toNat (by omega)
 have c4:=keepc hb hc
 simp only at c4
 have HB:=Lib.hid (bel_trans hb1 hb)
 have i1:0≤a / 8:=by omega
 have i2:a / 8 < (l:Int):=by omega
 clear hW hb hb1 L1 L2 L3 hc HH HX
 go_wp2_with fail
 go_region_held3 (fun w'=>w'.cell? ⟨w.heap.size+1,0,none⟩=some (.slice (some ⟨b,o,none⟩) l c)∧w'.cell? ⟨w.heap.size+1+1,0,none⟩=some (.int .i64 a)∧w'.cell? ⟨w.heap.size+1+1,1,none⟩=some (.int .i64 s)∧w'.cell? ⟨b,o+(a / 8).toNat,none⟩=some (.int .u64 (u (X (a / 8).toNat)))) (refine ⟨?_,?_,?_,?_⟩<;>(repeat (first | assumption | refine cell_keep ?_ _ | refine cell_drew ?_)))
  (first
   | (go_at_call 156;refine (pword_any _ _ _ a0 (by omega)).mono ?_;rintro e w' ⟨rfl,rfl⟩)
   | (go_at_call 157;refine (plow_any _ _ _ a0 (by omega)).mono ?_;rintro e w' ⟨rfl,rfl⟩)
   | (go_at_call 158;refine (pones_any _ _ _ (by omega) (by omega)).mono ?_;rintro e w' ⟨rfl,rfl⟩))
 go_wp2
 go_ret2
 exact ⟨rfl,Below.drew (bel_alloc (bel_alloc (bel_alloc HB.out _) _) _)⟩
theorem rread_ok (f:Option Addr) (l c:Nat) (X:Nat→BitVec 64) (a s:Int) (w:World) (hX:WordsAt w f l X) (hM:okM l=true) (hE:mayM l a s=0) :
  Calls Tryz.prog 32 #[.agg #[.slice f l c],.int .i64 a,.int .i64 s] w fun e w'=>e=.returned (.int .u64 (u (rdV X a s)))∧Below w.heap.size w w':=by
 obtain ⟨hs,a0,a1,a2⟩:=mayE_zero hE
 obtain ⟨l1,l2,l3⟩:=okM_true hM
 have hs1:=okS_true hs
 obtain ⟨b,o,rfl,hc⟩:=hX (a / 8).toNat (by omega)
 have i1:0≤a / 8:=by omega
 have i2:a / 8 < (l:Int):=by omega
 have c1:=cell_keep hc (.cells #[.slice (some ⟨b,o,none⟩) l c] 24)
 go_enter Tryz.func32,Tryz.ntmps32
 go_wp2_with (go_at_call 53;refine (rget_any _ _ _ _ (by omega) (by omega) (by omega)).mono ?_;rintro e w1 ⟨rfl,m,rfl⟩)
 go_ret
 exact ⟨rfl,below_drewN (bel_alloc (Below.refl _ _) _) _⟩
end
section
open Go.ChangeShapes Go.WideShapes Go.ChangeAt Go.RowKit Go.Deep
def tableA (l:Nat) (X:Nat→BitVec 64) (st lv fr pg:Int):Dsc×Int:=
 if okM l&&(placeB st lv&&numB pg 4095) then (if numB fr ((l:Int) / 8 - 1) then (tblD X st lv fr pg,0) else (dz,2)) else (dz,1)
def walkMay (l:Nat) (st fr pg:Int):Bool:=okM l&&(decide (st=1∨st=2)&&(numB fr 4095&&numB pg 4095))
def walkA (l:Nat) (X:Nat→BitVec 64) (st fr pg:Int):(Hit×Flt×List Int)×Int:=
 if walkMay l st fr pg then (walkD l X st fr pg,0) else ((hit0,flt0,[]),1)
def TableC:Prop:=∀ (f:Option Addr) (l c:Nat) (X:Nat→BitVec 64) (st lv fr pg:Int) (w:World),l≤1000000→l≤c→WordsAt w f l X→
 Calls Tryz.prog 282 #[.agg #[.slice f l c],.int .i64 st,.int .i64 lv,.int .i64 fr,.int .i64 pg] w fun e w'=>e=.returned (.tuple #[dscV (tableA l X st lv fr pg).1,.int .i64 (tableA l X st lv fr pg).2])∧Below w.heap.size w w'
def Walk4End (w:World) (q:(Hit×Flt×List Int)×Int) (e:Ending) (w':World):Prop:=
 ∃ f' c',e=.returned (.tuple #[hitV q.1.1,fltV q.1.2.1,.slice f' q.1.2.2.length c',.int .i64 q.2])∧OwnI w' w.heap.size (.slice f' q.1.2.2.length c') q.1.2.2∧Below w.heap.size w w'
def WalkC:Prop:=∀ (f:Option Addr) (l c:Nat) (X:Nat→BitVec 64) (st fr pg:Int) (w:World),l≤1000000→l≤c→WordsAt w f l X→
 Calls Tryz.prog 319 #[.agg #[.slice f l c],.int .i64 st,.int .i64 fr,.int .i64 pg] w (Walk4End w (walkA l X st fr pg))
structure Q5 where
 f:Option Addr
 l:Nat
 c:Nat
 X:Nat→BitVec 64
 fr:Int
 g:Option Addr
 n:Nat
 d:Nat
 P:Nat→Int
structure Ok5 (W:World) (q:Q5):Prop where
 words:WordsAt W q.f q.l q.X
 nums:NumsAt W q.g q.n q.P
 l1:q.l≤1000000000000000
 n1:q.n≤1000000000000000
 lc:q.l≤q.c
 nd:q.n≤q.d
 fr1:InI q.fr
theorem Ok5.below {W w:World} {q:Q5} (h:Ok5 W q) (hb:Below W.heap.size W w):Ok5 w q:=⟨h.words.below hb,h.nums.below hb,h.l1,h.n1,h.lc,h.nd,h.fr1⟩
section
variable {H:Type} {enc:TypeId×Value→H} {w:World} {base:Nat} {held:Bool}
end
end
section
open Go.ChangeShapes Go.WideShapes Go.ChangeAt Go.RowKit Go.Deep
section
variable {M:Int→Int→Hit×Flt×List Int} {T:Int→Int→Dsc} {pg acc:Int} {n:Nat} {lv mid:Int} {R:List Int} {a b:Hit×Flt×List Int} {d:Dsc}
end
theorem tbl_in (X:Nat→BitVec 64) (st lv fr pg:Int) (h:(tblD X st lv fr pg).k=2):(tblD X st lv fr pg).f+pg % cov lv≤4095:=by
 have hk:=of_cases st lv (X (fr * 8+idxI lv pg).toNat)
 have hd:tblD X st lv fr pg=ofD st lv (X (fr * 8+idxI lv pg).toNat):=rfl
 rw [hd] at h ⊢
 generalize ofD st lv (X (fr * 8+idxI lv pg).toNat)=d at *
 rcases hk with hk | ⟨hk,_⟩
 ·rw [hk] at h;cases h
 ·unfold mayD at hk
  rw [if_neg (by omega),if_neg (by omega),if_pos h] at hk
  unfold leafD at hk
  simp only [Bool.and_eq_true,numB_iff,decide_eq_true_eq] at hk
  obtain ⟨_,_,⟨f0,f1⟩,hm,_⟩:=hk
  rw [Int.tmod_eq_emod_of_nonneg f0] at hm
  have hc:cov lv=512∨cov lv=64∨cov lv=8∨cov lv=1:=by
   unfold cov
   split<;>(try split)<;>(try split)<;>simp
  rcases hc with hc | hc | hc | hc<;>rw [hc] at hm ⊢<;>omega
theorem mid_cases (l:Nat) (X:Nat→BitVec 64) (on:Bool) (tf mid acc:Int) (t0:0≤tf) (m0:0≤mid):(midD l X on tf mid acc).2.2.length≤4∧(∀ x∈(midD l X on tf mid acc).2.2,0≤x∧x < (l:Int) / 8)∧
  (((midD l X on tf mid acc).2.1=flt0∧0≤(midD l X on tf mid acc).1.f∧(midD l X on tf mid acc).1.f < (l:Int) / 8)∨((midD l X on tf mid acc).2.1.k≠0∧(midD l X on tf mid acc).1=hit0)):=by
 unfold midD
 cases on
 ·rw [if_pos rfl]
  by_cases h:(l:Int) / 8≤mid
  ·rw [if_pos h]
   exact ⟨by simp,by simp,.inr ⟨by simp,rfl⟩⟩
  ·rw [if_neg h]
   exact ⟨by simp,by simp,.inl ⟨rfl,m0,by simp only;omega⟩⟩
 ·rw [if_neg (by decide)]
  have hw:=walk_cases l X 2 tf mid t0 m0
  generalize walkD l X 2 tf mid=q at *
  obtain ⟨h1,h2,h3⟩:=hw
  rcases h3 with ⟨h3,_,h4,h5⟩ | ⟨h3,h4,_⟩
  ·rw [if_pos (by rw [h3];rfl)]
   split
   ·exact ⟨h1,h2,.inl ⟨rfl,h4,h5⟩⟩
   ·rename_i hg
    exact ⟨h1,h2,.inr ⟨hg,rfl⟩⟩
  ·rw [if_neg h3]
   exact ⟨h1,h2,.inr ⟨h3,rfl⟩⟩
end
section
open Go.ChangeShapes Go.WideShapes Go.ChangeAt Go.RowKit Go.Deep
def mayN (l:Nat) (tf pg acc:Int):Bool:=okM l&&(numB tf 4095&&(numB pg 4095&&numB acc 2))
def midA (l:Nat) (X:Nat→BitVec 64) (on:Bool) (tf pg acc:Int):(Hit×Flt×List Int)×Int:=
 if mayN l tf pg acc=true then (midD l X on tf pg acc,0) else ((hit0,flt0,[]),1)
def MidC:Prop:=∀ (f:Option Addr) (l c:Nat) (X:Nat→BitVec 64) (on:Bool) (tf tg mid acc:Int) (w:World),l≤1000000→l≤c→WordsAt w f l X→
 Calls Tryz.prog 274 #[.agg #[.slice f l c],.agg #[.bool on,.int .i64 tf,.int .i64 tg],.int .i64 mid,.int .i64 acc] w (Walk4End w (midA l X on tf mid acc))
theorem midA_no {l:Nat} {X:Nat→BitVec 64} {on:Bool} {tf pg acc:Int} (h:mayN l tf pg acc=false):midA l X on tf pg acc=((hit0,flt0,[]),1):=by unfold midA;rw [h];rfl
theorem midA_yes {l:Nat} {X:Nat→BitVec 64} {on:Bool} {tf pg acc:Int} (h:mayN l tf pg acc=true):midA l X on tf pg acc=(midD l X on tf pg acc,0):=by unfold midA;rw [h];rfl
theorem mayN_iff {l:Nat} {tf pg acc:Int}:mayN l tf pg acc=true↔okM l=true∧(0≤tf∧tf≤4095)∧(0≤pg∧pg≤4095)∧0≤acc∧acc≤2:=by
 simp only [mayN,Bool.and_eq_true,numB_iff]
section
variable {H:Type} {enc:TypeId×Value→H} {w:World} {base:Nat} {held:Bool}
end
end
section
open Go.ChangeShapes Go.WideShapes Go.ChangeAt Go.RowKit Go.Deep
def pwV (x:BitVec 64) (k:Nat) (s:Int) (v:BitVec 64):BitVec 64:=(x&&& ~~~(msk (8 * s) <<< k))||| ((v&&& msk (8 * s)) <<< k)
def wrV (X:Nat→BitVec 64) (a s:Int) (v:BitVec 64):Nat→BitVec 64:=upd X (a / 8).toNat (pwV (X (a / 8).toNat) (a % 8 * 8).toNat s v)
set_option linter.unusedSimpArgs false in
set_option maxHeartbeats 1600000 in
set_option maxRecDepth 100000 in
theorem put_ok (base:Nat) (f:Option Addr) (l c:Nat) (X:Nat→BitVec 64) (a s:Int) (v:BitVec 64) (w:World) (hO:OwnW w base (.slice f l c) l X) (hbase:base≤w.heap.size) (hM:okM l=true) (hE:mayM l a s=0) :
  Calls Tryz.prog 204 #[.agg #[.slice f l c],.agg #[.int .i64 a,.int .i64 s],.int .u64 (u v)] w fun e w'=>e=.returned (.tuple #[])∧OwnW w' base (.slice f l c) l (wrV X a s v)∧Below base w w'∧∀ g',f=some ⟨g',0,none⟩→∀ k,k < w.heap.size→k≠g'→w'.heap[k]?=w.heap[k]?:=by
 obtain ⟨hs,a0,a1,a2⟩:=mayE_zero hE
 obtain ⟨l1,l2,l3⟩:=okM_true hM
 have hs1:=okS_true hs
 obtain ⟨g,c',hv,hg,hgl,hlc,hc⟩:=hO.pos (by omega)
 simp at hv
 obtain ⟨rfl,rfl⟩:=hv
 obtain ⟨W,hW⟩:∃ W,W=(w.alloc (.cells #[.slice (some ⟨g,0,none⟩) l c] 275)).alloc (.cells #[.int .i64 a,.int .i64 s] 214):=⟨_,rfl⟩
 have hb1:Below w.heap.size w W:=by rw [hW];exact bel_alloc (bel_alloc (Below.refl w.heap.size w) _) _
 have L1:Loc W w.heap.size 0 (.slice (some ⟨g,0,none⟩) l c):=by rw [hW];exact (Loc.new _ _ _ _ 0 _ (by simp) rfl).alloc _
 have L2:Loc W (w.heap.size+1) 0 (.int .i64 a):=by rw [hW];exact Loc.new _ _ _ _ 0 _ (by simp) rfl
 have L3:Loc W (w.heap.size+1) 1 (.int .i64 s):=by rw [hW];exact Loc.new _ _ _ _ 1 _ (by simp) rfl
 have L4:Loc W g (a / 8).toNat (.int .u64 (u (X (a / 8).toNat))):=(Loc.mk (hc (a / 8).toNat (by omega)) (hO.frozen _)).below hb1
 have hO1:=hO.below hb1
 obtain ⟨c1,_⟩:=L1
 obtain ⟨c2,_⟩:=L2
 obtain ⟨c3,_⟩:=L3
 have hgW:=L4.lt
 obtain ⟨c4,q4⟩:=L4
 have i1:0≤a / 8:=by omega
 have i2:a / 8 < (l:Int):=by omega
 go_enter Tryz.func204,Tryz.ntmps204
 go_wp2_with fail
 rw [← hW]
 have HB:=Lib.hid hb1
 have HO1:=Lib.hid hO1
 clear hb1 hO1 hW hO hc
 go_region_held3 (fun w'=>w'.cell? ⟨w.heap.size,0,none⟩=some (.slice (some ⟨g,0,none⟩) l c)∧w'.cell? ⟨w.heap.size+1,0,none⟩=some (.int .i64 a)∧w'.cell? ⟨w.heap.size+1,1,none⟩=some (.int .i64 s)) (refine ⟨?_,?_,?_⟩<;>(repeat (first | assumption | refine cell_keep ?_ _ | refine cell_drew ?_)))
  (first
   | (go_at_call 156;refine (pword_any _ _ _ a0 (by omega)).mono ?_;rintro e w' ⟨rfl,rfl⟩))
 rename_i hHeld
 obtain ⟨_,d2,d3⟩:=hHeld
 have d4:=cell_drew (cell_keep c4 (.cells #[.int .i64 a,.int .i64 s] 214))
 have q5:=frozen_drew (frozen_keep hgW q4 (.cells #[.int .i64 a,.int .i64 s] 214))
 have HB2:=Lib.hid (Below.drew (bel_alloc HB.out (.cells #[.int .i64 a,.int .i64 s] 214)))
 have HO2:Hid (OwnW (W.alloc (.cells #[.int .i64 a,.int .i64 s] 214)).drew base (.slice (some ⟨g,0,none⟩) l c) l X):=HO1.out.below (Below.drew (bel_alloc (Below.refl _ _) _))
 have hgW2:g < (W.alloc (.cells #[.int .i64 a,.int .i64 s] 214)).drew.heap.size:=cell_block d4
 generalize (W.alloc (.cells #[.int .i64 a,.int .i64 s] 214)).drew=W2 at *
 clear c1 c2 c3 c4 q4 HB HO1 hgW
 go_wp2_with fail
 have hne:w.heap.size+1≠g:=by omega
 have HA4:=Lib.hid (bel_alloc (bel_alloc (bel_alloc (bel_alloc (Below.refl W2.heap.size W2) (.cells #[.int .i64 a,.int .i64 s] 214)) (.cells #[.int .i64 a,.int .i64 s] 214)) (.cells #[.int .i64 a,.int .i64 s] 214)) (.cells #[.int .i64 a,.int .i64 s] 214))
 have HOF:=Lib.hid ((HO2.out.below HA4.out).stored (a / 8).toNat (pwV (X (a / 8).toNat) (a % 8 * 8).toNat s v)).drew
 have HBF:=Lib.hid (Below.drew (((HB2.out.mono hbase).trans (HA4.out.mono (Nat.le_trans hbase HB2.out.size))).setCell (p:=⟨g,(a / 8).toNat,none⟩) hg (.int .u64 (u (pwV (X (a / 8).toNat) (a % 8 * 8).toNat s v)))))
 have HKF:=Lib.hid (fun (k:Nat) (hk:k < w.heap.size) (hkg:k≠g)=>(Below.heap_setCell _ ⟨g,(a / 8).toNat,none⟩ (.int .u64 (u (pwV (X (a / 8).toNat) (a % 8 * 8).toNat s v))) k hkg).trans ((bel_trans HB2.out HA4.out).block k hk))
 have L0:Loc W2 g (a / 8).toNat (.int .u64 (u (X (a / 8).toNat))):=⟨d4,q5⟩
 have L1:=L0.alloc (.cells #[.int .i64 a,.int .i64 s] 214)
 have L2:=L1.alloc (.cells #[.int .i64 a,.int .i64 s] 214)
 have L3:=L2.alloc (.cells #[.int .i64 a,.int .i64 s] 214)
 have L4:=L3.alloc (.cells #[.int .i64 a,.int .i64 s] 214)
 have e4:=cell_drew L4.cell
 have f4:=frozen_drew L4.free
 clear L0 L1 L2 L3 L4
 refine wp_region_late 19 (fun w'=>w'.cell? ⟨w.heap.size+1,0,none⟩=some (.int .i64 a)∧w'.cell? ⟨w.heap.size+1,1,none⟩=some (.int .i64 s)∧w'.cell? ⟨g,(a / 8).toNat,none⟩=some (.int .u64 (u (X (a / 8).toNat)))) (by kernel_rfl) ?_
 have hS:W2.drew.cell? ⟨w.heap.size+1,0,none⟩=some (.int .i64 a)∧W2.drew.cell? ⟨w.heap.size+1,1,none⟩=some (.int .i64 s)∧W2.drew.cell? ⟨g,(a / 8).toNat,none⟩=some (.int .u64 (u (X (a / 8).toNat))):=⟨d2,d3,d4⟩
 refine late_take 0 (v:=?_) rfl (by kernel_rfl) (by kernel_rfl) (by kernel_rfl) (by kernel_rfl) (fun _ _ _ h=>h) hS (Or.inl ⟨by rfl,?_⟩) ?_
 rotate_left
 ·intro w' hSw
  obtain ⟨s1,s2,s3⟩:=hSw
  go_simp
  try with_reducible rfl
 simp only [Act.put,List.setIfInBounds_toArray,List.set_cons_zero,List.set_cons_succ]
 refine late_take 1 (v:=?_) rfl (by kernel_rfl) (by kernel_rfl) (by kernel_rfl) (by kernel_rfl) (fun _ _ _ h=>h) hS (Or.inl ⟨by rfl,?_⟩) ?_
 rotate_left
 ·intro w' hSw
  obtain ⟨s1,s2,s3⟩:=hSw
  go_simp
  try with_reducible rfl
 simp only [Act.put,List.setIfInBounds_toArray,List.set_cons_zero,List.set_cons_succ]
 refine late_take 2 (v:=?_) rfl (by kernel_rfl) (by kernel_rfl) (by kernel_rfl) (by kernel_rfl) (fun _ _ _ h=>h) hS (Or.inl ⟨by rfl,?_⟩) ?_
 rotate_left
 ·intro w' hSw
  obtain ⟨s1,s2,s3⟩:=hSw
  go_simp
  try with_reducible rfl
 simp only [Act.put,List.setIfInBounds_toArray,List.set_cons_zero,List.set_cons_succ]
 refine late_take 3 (v:=?_) rfl (by kernel_rfl) (by kernel_rfl) (by kernel_rfl) (by kernel_rfl) (fun _ _ _ h=>h) hS (Or.inl ⟨by rfl,?_⟩) ?_
 rotate_left
 ·intro w' hSw
  obtain ⟨s1,s2,s3⟩:=hSw
  go_simp
  try with_reducible rfl
 simp only [Act.put,List.setIfInBounds_toArray,List.set_cons_zero,List.set_cons_succ]
 refine late_take 4 (v:=?_) rfl (by kernel_rfl) (by kernel_rfl) (by kernel_rfl) (by kernel_rfl) (fun _ _ _ h=>h) hS (Or.inl ⟨by rfl,?_⟩) ?_
 rotate_left
 ·intro w' hSw
  obtain ⟨s1,s2,s3⟩:=hSw
  go_simp
  try with_reducible rfl
 simp only [Act.put,List.setIfInBounds_toArray,List.set_cons_zero,List.set_cons_succ]
 refine late_take 6 (v:=?_) rfl (by kernel_rfl) (by kernel_rfl) (by kernel_rfl) (by kernel_rfl) (fun _ _ _ h=>h) hS (Or.inl ⟨by rfl,?_⟩) ?_
 rotate_left
 ·intro w' hSw
  obtain ⟨s1,s2,s3⟩:=hSw
  go_simp
  try with_reducible rfl
 simp only [Act.put,List.setIfInBounds_toArray,List.set_cons_zero,List.set_cons_succ]
 refine late_take 10 (v:=?_) rfl (by kernel_rfl) (by kernel_rfl) (by kernel_rfl) (by kernel_rfl) (fun _ _ _ h=>h) hS (Or.inl ⟨by rfl,?_⟩) ?_
 rotate_left
 ·intro w' hSw
  obtain ⟨s1,s2,s3⟩:=hSw
  go_simp
  try with_reducible rfl
 simp only [Act.put,List.setIfInBounds_toArray,List.set_cons_zero,List.set_cons_succ]
 refine late_take 11 (v:=?_) rfl (by kernel_rfl) (by kernel_rfl) (by kernel_rfl) (by kernel_rfl) (fun _ _ _ h=>h) hS (Or.inl ⟨by rfl,?_⟩) ?_
 rotate_left
 ·intro w' hSw
  obtain ⟨s1,s2,s3⟩:=hSw
  go_simp
  try with_reducible rfl
 simp only [Act.put,List.setIfInBounds_toArray,List.set_cons_zero,List.set_cons_succ]
 refine late_take 14 (v:=?_) rfl (by kernel_rfl) (by kernel_rfl) (by kernel_rfl) (by kernel_rfl) (fun _ _ _ h=>h) hS (Or.inl ⟨by rfl,?_⟩) ?_
 rotate_left
 ·intro w' hSw
  obtain ⟨s1,s2,s3⟩:=hSw
  go_simp
  try with_reducible rfl
 simp only [Act.put,List.setIfInBounds_toArray,List.set_cons_zero,List.set_cons_succ]
 refine late_one 5 (by kernel_rfl) rfl (fun K hK=>?_)
 go_simp
 refine (pones_any _ _ _ (by omega) (by omega)).mono ?_
 rintro e w' ⟨rfl,rfl⟩
 refine hK.out _ _ ?_ (fun hS'=>?_)
 ·obtain ⟨s1,s2,s3⟩:=hS
  refine ⟨?_,?_,?_⟩<;>(repeat (first | with_reducible assumption | with_reducible refine cell_keep ?_ _ | with_reducible refine cell_drew ?_))
 clear hK K hS
 have hS:=hS'
 clear hS'
 try simp only [Act.put,List.setIfInBounds_toArray,List.set_cons_zero,List.set_cons_succ]
 refine late_one 7 (by kernel_rfl) rfl (fun K hK=>?_)
 go_simp
 refine (plow_any _ _ _ a0 (by omega)).mono ?_
 rintro e w' ⟨rfl,rfl⟩
 refine hK.out _ _ ?_ (fun hS'=>?_)
 ·obtain ⟨s1,s2,s3⟩:=hS
  refine ⟨?_,?_,?_⟩<;>(repeat (first | with_reducible assumption | with_reducible refine cell_keep ?_ _ | with_reducible refine cell_drew ?_))
 clear hK K hS
 have hS:=hS'
 clear hS'
 try simp only [Act.put,List.setIfInBounds_toArray,List.set_cons_zero,List.set_cons_succ]
 refine late_take 8 (v:=?_) rfl (by kernel_rfl) (by kernel_rfl) (by kernel_rfl) (by kernel_rfl) (fun _ _ _ h=>h) hS (Or.inl ⟨by rfl,?_⟩) ?_
 rotate_left
 ·intro w' hSw
  obtain ⟨s1,s2,s3⟩:=hSw
  go_simp
  try with_reducible rfl
 simp only [Act.put,List.setIfInBounds_toArray,List.set_cons_zero,List.set_cons_succ]
 refine late_take 9 (v:=?_) rfl (by kernel_rfl) (by kernel_rfl) (by kernel_rfl) (by kernel_rfl) (fun _ _ _ h=>h) hS (Or.inl ⟨by rfl,?_⟩) ?_
 rotate_left
 ·intro w' hSw
  obtain ⟨s1,s2,s3⟩:=hSw
  go_simp
  try with_reducible rfl
 simp only [Act.put,List.setIfInBounds_toArray,List.set_cons_zero,List.set_cons_succ]
 refine late_one 12 (by kernel_rfl) rfl (fun K hK=>?_)
 go_simp
 refine (pones_any _ _ _ (by omega) (by omega)).mono ?_
 rintro e w' ⟨rfl,rfl⟩
 refine hK.out _ _ ?_ (fun hS'=>?_)
 ·obtain ⟨s1,s2,s3⟩:=hS
  refine ⟨?_,?_,?_⟩<;>(repeat (first | with_reducible assumption | with_reducible refine cell_keep ?_ _ | with_reducible refine cell_drew ?_))
 clear hK K hS
 have hS:=hS'
 clear hS'
 try simp only [Act.put,List.setIfInBounds_toArray,List.set_cons_zero,List.set_cons_succ]
 refine late_take 13 (v:=?_) rfl (by kernel_rfl) (by kernel_rfl) (by kernel_rfl) (by kernel_rfl) (fun _ _ _ h=>h) hS (Or.inl ⟨by rfl,?_⟩) ?_
 rotate_left
 ·intro w' hSw
  obtain ⟨s1,s2,s3⟩:=hSw
  go_simp
  try with_reducible rfl
 simp only [Act.put,List.setIfInBounds_toArray,List.set_cons_zero,List.set_cons_succ]
 refine late_one 15 (by kernel_rfl) rfl (fun K hK=>?_)
 go_simp
 refine (plow_any _ _ _ a0 (by omega)).mono ?_
 rintro e w' ⟨rfl,rfl⟩
 refine hK.out _ _ ?_ (fun hS'=>?_)
 ·obtain ⟨s1,s2,s3⟩:=hS
  refine ⟨?_,?_,?_⟩<;>(repeat (first | with_reducible assumption | with_reducible refine cell_keep ?_ _ | with_reducible refine cell_drew ?_))
 clear hK K hS
 have hS:=hS'
 clear hS'
 try simp only [Act.put,List.setIfInBounds_toArray,List.set_cons_zero,List.set_cons_succ]
 refine late_take 16 (v:=?_) rfl (by kernel_rfl) (by kernel_rfl) (by kernel_rfl) (by kernel_rfl) (fun _ _ _ h=>h) hS (Or.inl ⟨by rfl,?_⟩) ?_
 rotate_left
 ·intro w' hSw
  obtain ⟨s1,s2,s3⟩:=hSw
  go_simp
  try with_reducible rfl
 simp only [Act.put,List.setIfInBounds_toArray,List.set_cons_zero,List.set_cons_succ]
 refine late_take 17 (v:=?_) rfl (by kernel_rfl) (by kernel_rfl) (by kernel_rfl) (by kernel_rfl) (fun _ _ _ h=>h) hS (Or.inl ⟨by rfl,?_⟩) ?_
 rotate_left
 ·intro w' hSw
  obtain ⟨s1,s2,s3⟩:=hSw
  go_simp
  try with_reducible rfl
 simp only [Act.put,List.setIfInBounds_toArray,List.set_cons_zero,List.set_cons_succ]
 refine late_take 18 (v:=?_) rfl (by kernel_rfl) (by kernel_rfl) (by kernel_rfl) (by kernel_rfl) (fun _ _ _ h=>h) hS (Or.inl ⟨by rfl,?_⟩) ?_
 rotate_left
 ·intro w' hSw
  obtain ⟨s1,s2,s3⟩:=hSw
  go_simp
  try with_reducible rfl
 simp only [Act.put,List.setIfInBounds_toArray,List.set_cons_zero,List.set_cons_succ]
 refine late_last (by kernel_rfl) (by kernel_rfl) rfl (fun K hK=>?_)
 go_simp
 refine hK.out _ _ ?_
 go_returns
 exact ⟨rfl,HOF.out,HBF.out,fun g' hg' k hk hkg=>HKF.out k hk (fun e=>hkg (by rw [e];injection hg' with h1;injection h1))⟩
end
end Go.Proofs.YtlgpdbgingjpbaaGreat
