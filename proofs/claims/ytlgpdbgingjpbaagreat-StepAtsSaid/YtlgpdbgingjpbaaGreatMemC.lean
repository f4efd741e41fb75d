/- Contracts of the small functions of package mem and of its reference. Contracts: bulwarkref0.CopyWords,EqWords;bulwarklaw0.Words;slices.Clone of words. Contracts: CopyMem,EqMem of the reference;draftOf,frame,allows,hasAll of package mem;the law's there. Contracts: allows,hasAll,Check,Frames of package mem;the law's there. -/
import Derived.Test.YtlgpdbgingjpbaaGreatHa
import Derived.Test.YtlgpdbgingjpbaaGreatOwn
set_option linter.all false
namespace Go.Proofs.YtlgpdbgingjpbaaGreat
section
open Go.ChangeShapes Go.WideShapes Go.ChangeAt Go.RowKit
def okM (l:Nat):Bool:=decide (8≤l∧l≤512∧l % 8=0)
theorem okM_true {l:Nat} (h:okM l=true):8≤l∧l≤512∧l % 8=0:=of_decide_eq_true h
def okS (s:Int):Bool:=decide (s=1∨s=2∨s=4∨s=8)
theorem okS_true {s:Int} (h:okS s=true):s=1∨s=2∨s=4∨s=8:=of_decide_eq_true h
def mayM (l:Nat) (a s:Int):Int:=if okS s=false then 1 else if a < 0∨8 * (l:Int)≤a then 2 else if a % s≠0 then 8 else 0
theorem bmay_any (f:Option Addr) (l c:Nat) (w:World) :
  Calls Tryz.prog 107 #[.agg #[.slice f l c]] w fun e w'=>e=.returned (.bool (okM l))∧w'=w.alloc (.cells #[.slice f l c] 143):=by
 go_enter Tryz.func107,Tryz.ntmps107
 go_wp2
 all_goals
  go_ret
  refine ⟨ret_bool ?_,rfl⟩
  unfold okM
  rw [Bool.eq_iff_iff]
  simp
  omega
theorem bframes_any (f:Option Addr) (l c:Nat) (w:World) (hl:l≤1000000000000000) :
  Calls Tryz.prog 81 #[.agg #[.slice f l c]] w fun e w'=>e=.returned (.int .i64 ((l:Int) / 8))∧w'=w.alloc (.cells #[.slice f l c] 143):=by
 go_enter Tryz.func81,Tryz.ntmps81
 go_wp2
 go_ret
 exact ⟨rfl,rfl⟩
theorem bbytes_any (f:Option Addr) (l c:Nat) (w:World) (hl:l≤1000000000) :
  Calls Tryz.prog 201 #[.agg #[.slice f l c]] w fun e w'=>e=.returned (.int .i64 ((l:Int) * 8))∧w'=w.alloc (.cells #[.slice f l c] 143):=by
 go_enter Tryz.func201,Tryz.ntmps201
 go_wp2
 go_ret
 exact ⟨rfl,rfl⟩
theorem pmay_any (a s:Int) (w:World) :
  Calls Tryz.prog 200 #[.agg #[.int .i64 a,.int .i64 s]] w fun e w'=>e=.returned (.bool (okS s))∧w'=w.alloc (.cells #[.int .i64 a,.int .i64 s] 214):=by
 by_cases hs:okS s=true
 ·rcases okS_true hs with rfl | rfl | rfl | rfl
  all_goals
   go_enter Tryz.func200,Tryz.ntmps200
   go_wp2
   go_ret
   exact ⟨rfl,rfl⟩
 ·have hn:s≠1∧s≠2∧s≠4∧s≠8:=by
   unfold okS at hs;simp at hs;omega
  obtain ⟨n1,n2,n3,n4⟩:=hn
  have e:okS s=false:=by simpa using hs
  rw [e]
  clear e hs
  go_enter Tryz.func200,Tryz.ntmps200
  go_wp2
  go_ret
  refine ⟨ret_bool ?_,rfl⟩
  simp [n1,n2,n3,n4]
theorem pword_any (a s:Int) (w:World) (h0:0≤a) (h1:a≤1000000000000) :
  Calls Tryz.prog 156 #[.agg #[.int .i64 a,.int .i64 s]] w fun e w'=>e=.returned (.int .i64 (a / 8))∧w'=w.alloc (.cells #[.int .i64 a,.int .i64 s] 214):=by
 go_enter Tryz.func156,Tryz.ntmps156
 go_wp2
 go_ret
 exact ⟨rfl,rfl⟩
theorem plow_any (a s:Int) (w:World) (h0:0≤a) (h1:a≤1000000000000) :
  Calls Tryz.prog 157 #[.agg #[.int .i64 a,.int .i64 s]] w fun e w'=>e=.returned (.int .i64 (a % 8 * 8))∧w'=w.alloc (.cells #[.int .i64 a,.int .i64 s] 214):=by
 go_enter Tryz.func157,Tryz.ntmps157
 go_wp2
 go_ret
 exact ⟨rfl,rfl⟩
theorem pones_any (a s:Int) (w:World) (h0:1≤s) (h1:s≤8) :
  Calls Tryz.prog 158 #[.agg #[.int .i64 a,.int .i64 s]] w fun e w'=>e=.returned (.int .u64 (u (msk (8 * s))))∧w'=w.alloc (.cells #[.int .i64 a,.int .i64 s] 214):=by
 go_enter Tryz.func158,Tryz.ntmps158
 go_wp2
 go_ret
 refine ⟨ret_int ?_,rfl⟩
 rw [← msk_ones]
 congr 2
 omega
theorem rmay_any (f:Option Addr) (l c:Nat) (a s:Int) (w:World) (hl:l≤1000000000) :
  Calls Tryz.prog 50 #[.agg #[.slice f l c],.int .i64 a,.int .i64 s] w fun e w'=>e=.returned (.int .i64 (mayM l a s))∧w'=w.alloc (.cells #[.slice f l c] 24):=by
 by_cases hs:okS s=true
 ·have hs':=okS_true hs
  by_cases ha:a < 0∨8 * (l:Int)≤a
  ·have e:mayM l a s=2:=by unfold mayM;rw [if_neg (by simp [hs]),if_pos ha]
   rw [e]
   clear e hs
   rcases hs' with rfl | rfl | rfl | rfl<;>by_cases hn:a < 0
   all_goals
    go_enter Tryz.func50,Tryz.ntmps50
    go_wp2
    go_ret
    exact ⟨rfl,rfl⟩
  ·have e:mayM l a s=if a % s≠0 then 8 else 0:=by unfold mayM;rw [if_neg (by simp [hs]),if_neg ha]
   rw [e]
   clear e hs
   have h0:0≤a:=by omega
   have h1:a < 8 * (l:Int):=by omega
   clear ha
   by_cases hq:a % s=0
   ·have hq':(a % s != 0)=false:=by simpa using hq
    rw [if_neg (fun h=>h hq)]
    clear hq
    rcases hs' with rfl | rfl | rfl | rfl
    all_goals
     go_enter Tryz.func50,Tryz.ntmps50
     go_wp2
     go_ret
     exact ⟨rfl,rfl⟩
   ·have hq':(a % s != 0)=true:=by simpa using hq
    rw [if_pos hq]
    rcases hs' with rfl | rfl | rfl | rfl
    ·omega
    all_goals
     clear hq
     go_enter Tryz.func50,Tryz.ntmps50
     go_wp2
     go_ret
     exact ⟨rfl,rfl⟩
 ·have e:mayM l a s=1:=by unfold mayM;rw [if_pos (by simpa using hs)]
  have hn:s≠1∧s≠2∧s≠4∧s≠8:=by
   unfold okS at hs;simp at hs;omega
  obtain ⟨n1,n2,n3,n4⟩:=hn
  rw [e]
  have m1:(s != 1)=true:=by simpa using n1
  have m2:(s != 2)=true:=by simpa using n2
  have m3:(s != 4)=true:=by simpa using n3
  have m4:(s != 8)=true:=by simpa using n4
  clear e hs n1 n2 n3 n4
  go_enter Tryz.func50,Tryz.ntmps50
  go_wp2
  go_ret
  exact ⟨rfl,rfl⟩
end
section
open Go.ChangeShapes Go.WideShapes Go.ChangeAt Go.RowKit Go.Deep
set_option maxRecDepth 100000 in
theorem copyW_any (f:Option Addr) (l c:Nat) (X:Nat→BitVec 64) (w:World) (hl:l≤100000) (h:WordsAt w f l X) :
  Calls Tryz.prog 35 #[.slice f l c] w fun e w'=>∃ f' c',e=.returned (.slice f' l c')∧OwnW w' w.heap.size (.slice f' l c') l X∧Below w.heap.size w w':=by
 have HX:=Lib.hid h
 clear h
 go_enter Tryz.func35,Tryz.ntmps35
 go_wp2
 go_loopw [3,4] (fun v i wr=>∃ (k:Nat) (f':Option Addr) (c':Nat),k≤l∧i=.int .i64 k∧v=.slice f' k c'∧Below w.heap.size w wr∧Hid (OwnW wr w.heap.size (.slice f' k c') k X)) (fun _ i _=>l - (intOf i).toNat)
 case atStart=>exact ⟨0,none,0,Nat.zero_le _,rfl,rfl,Below.refl _ _,OwnW.nil _ _ _⟩
 case round=>
  obtain ⟨k,f',c',hk,rfl,rfl,hb,HO⟩:=hrel
  by_cases hlt:k < l
  ·obtain ⟨b,o,rfl,hc⟩:=HX.out k hlt
   have hc':=keepc hb hc
   have HB:=Lib.hid hb
   have i1:(0:Int)≤(k:Int):=by omega
   have i2:(k:Int) < (l:Int):=by omega
   have HS:Hid (w.heap.size≤(wr.alloc (.cells #[.int .u64 (u (X k))] 25)).heap.size):=by
    have:=hb.size
    show _≤_
    simp
    omega
   have HO1:Hid (OwnW (wr.alloc (.cells #[.int .u64 (u (X k))] 25)) w.heap.size (.slice f' k c') k X):=HO.out.below (bel_alloc (Below.refl _ _) _)
   have HY:Hid ((wr.alloc (.cells #[.int .u64 (u (X k))] 25)).cell? ⟨wr.heap.size,0,none⟩=some (.int .u64 (u (X k)))):=cell_new wr _ _ 0
   have HB1:Hid (Below w.heap.size w (wr.alloc (.cells #[.int .u64 (u (X k))] 25))):=bel_alloc hb _
   clear hb HO hc
   go_wp2_with (at_builtin;refine wpList_pushW rfl _ _ rfl w.heap.size _ k X rfl HO1.out wr.heap.size 1 (X k) rfl HY.out (by omega) HS.out ?_;intro f2 c2 w2 hO2 hB2)
   go_roundw
   case rel=>exact ⟨k+1,f2,c2,by omega,by go_num,rfl,HB1.out.trans hB2,by rw [upd_self] at hO2;exact hO2⟩
   case measure=>simp [intOf];omega
  ·obtain rfl:k=l:=by omega
   go_wp2
   go_ret
   exact ⟨f',c',rfl,HO.out,hb⟩
set_option maxRecDepth 100000 in
theorem clone_any (b o l c:Nat) (X:Nat→BitVec 64) (w:World) (hl:l≤100000) (h:WordsAt w (some ⟨b,o,none⟩) l X) :
  Calls Tryz.prog 60 #[.slice (some ⟨b,o,none⟩) l c] w fun e w'=>∃ f' c',e=.returned (.slice f' l c')∧OwnW w' w.heap.size (.slice f' l c') l X∧Below w.heap.size w w':=by
 have O1:Hid ((w.alloc (.cells #[] 25)).ownsRow w.heap.size 25 1 (.slice (some ⟨w.heap.size,0,none⟩) 0 0) 0 []):=
  World.ownsRow_made (base:=w.heap.size) (e:=25) (size:=1) w #[] 0 (Nat.le_refl _) (by unfold maxLen;omega) rfl
 have hb:=bel_alloc (Below.refl w.heap.size w) (.cells #[] 25)
 have O2:=Lib.hid (h.below hb)
 have O3:=Lib.hid hb.size
 have O4:=Lib.hid hb
 clear h hb
 have he:∀ w:World,(binOp .eql 22 (.slice (some ⟨b,o,none⟩) l c) (.slice none 0 0)).run Tryz.prog w=.ok (.bool false) w:=fun _=>rfl
 go_enter Tryz.func60,Tryz.ntmps60
 go_wp2_with (at_builtin;refine wpList_cloneW rfl _ _ rfl w.heap.size w.heap.size 0 rfl O1.out _ _ _ X rfl O2.out hl O3.out ?_;intro f2 c2 w2 hO2 hB2)
 go_ret
 exact ⟨f2,c2,rfl,hO2,O4.out.trans hB2⟩
end
section
open Go.ChangeShapes Go.WideShapes Go.ChangeAt Go.RowKit Go.Deep
theorem copyM_any (f:Option Addr) (l c:Nat) (X:Nat→BitVec 64) (w:World) (hl:l≤100000) (h:WordsAt w f l X) :
  Calls Tryz.prog 14 #[.agg #[.slice f l c]] w fun e w'=>∃ f' c',e=.returned (.agg #[.slice f' l c'])∧OwnW w' w.heap.size (.slice f' l c') l X∧Below w.heap.size w w':=by
 obtain ⟨W,hW⟩:∃ W,W=((w.alloc (.cells #[.slice f l c] 24)).alloc (.cells #[.slice none 0 0] 24)).alloc (.cells #[.slice f l c] 24):=⟨_,rfl⟩
 have hb1:Below w.heap.size w W:=by rw [hW];exact bel_alloc (bel_alloc (bel_alloc (Below.refl w.heap.size w) _) _) _
 have hs:W.heap.size=w.heap.size+3:=by rw [hW];simp
 have L1:Loc W (w.heap.size+1) 0 (.slice none 0 0):=by rw [hW];exact (Loc.new _ _ _ _ 0 _ (by simp) rfl).alloc _
 have L2:Loc W (w.heap.size+1+1) 0 (.slice f l c):=by rw [hW];exact Loc.new _ _ _ _ 0 _ (by simp) rfl
 have H:=Lib.hid (copyW_any f l c X W hl (h.below hb1))
 go_enter Tryz.func14,Tryz.ntmps14
 go_wp2_with fail
 rw [← hW]
 refine H.out.mono ?_
 rintro e w1 ⟨f1,c1,rfl,hO,hB⟩
 obtain ⟨p1,q1⟩:=L1.below hB
 obtain ⟨p2,q2⟩:=L2.below hB
 have R1:=Lib.hid (((hO.other (w.heap.size+1+1) 0 (.slice f1 l c1) (by omega)).other (w.heap.size+1) 0 (.slice f1 l c1) (by omega)).mono (show w.heap.size≤_ by omega))
 have R2:=Lib.hid (((hb1.trans (hB.mono hb1.size)).setCell (p:=⟨w.heap.size+1+1,0,none⟩) (by simp only;omega) (.slice f1 l c1)).setCell (p:=⟨w.heap.size+1,0,none⟩) (by simp only;omega) (.slice f1 l c1))
 have hz:=(((L1.below hB).set (w.heap.size+1+1) 0 (.slice f1 l c1) (by omega)).put (.slice f1 l c1)).cell
 clear hW hb1 hs L1 L2 H h hO hB
 go_wp2
 refine bodyPost_ret (v:=.agg #[.slice f1 l c1]) (by simp [results,Tryz.results14,go_sem,hz]) rfl ?_
 exact ⟨f1,c1,rfl,R1.out,R2.out⟩
end
section
open Go.ChangeShapes Go.WideShapes Go.ChangeAt Go.RowKit Go.Deep
theorem allows_noM (f:Option Addr) (l c:Nat) (a s:Int) (w:World) (h:okM l=false) :
  Calls Tryz.prog 155 #[.agg #[.slice f l c],.agg #[.int .i64 a,.int .i64 s]] w fun e w'=>e=.returned (.int .i64 1)∧Below w.heap.size w w':=by
 go_enter Tryz.func155,Tryz.ntmps155
 go_wp2_with (go_at_call 107;refine (bmay_any _ _ _ _).mono ?_;rintro e w' ⟨rfl,rfl⟩)
 go_ret
 exact ⟨rfl,by go_grown⟩
theorem allows_noS (f:Option Addr) (l c:Nat) (a s:Int) (w:World) (h:okM l=true) (hs:okS s=false) :
  Calls Tryz.prog 155 #[.agg #[.slice f l c],.agg #[.int .i64 a,.int .i64 s]] w fun e w'=>e=.returned (.int .i64 1)∧Below w.heap.size w w':=by
 go_enter Tryz.func155,Tryz.ntmps155
 go_wp2_with (first
  | (go_at_call 107;refine (bmay_any _ _ _ _).mono ?_;rintro e w' ⟨rfl,rfl⟩)
  | (go_at_call 200;refine (pmay_any _ _ _).mono ?_;rintro e w' ⟨rfl,rfl⟩))
 go_ret
 exact ⟨rfl,by go_grown⟩
theorem allows_neg (f:Option Addr) (l c:Nat) (a s:Int) (w:World) (h:okM l=true) (hs:okS s=true) (ha:a < 0) :
  Calls Tryz.prog 155 #[.agg #[.slice f l c],.agg #[.int .i64 a,.int .i64 s]] w fun e w'=>e=.returned (.int .i64 2)∧Below w.heap.size w w':=by
 have hd:decide (a < 0)=true:=decide_eq_true ha
 go_enter Tryz.func155,Tryz.ntmps155
 go_wp2_with (first
  | (go_at_call 107;refine (bmay_any _ _ _ _).mono ?_;rintro e w' ⟨rfl,rfl⟩)
  | (go_at_call 200;refine (pmay_any _ _ _).mono ?_;rintro e w' ⟨rfl,rfl⟩))
 first | (go_region_with (first | fail)) | skip
 go_wp2
 all_goals
  go_ret
  exact ⟨rfl,by go_grown⟩
theorem allows_pos (f:Option Addr) (l c:Nat) (a s:Int) (w:World) (h:okM l=true) (hs:okS s=true) (ha:0≤a) :
  Calls Tryz.prog 155 #[.agg #[.slice f l c],.agg #[.int .i64 a,.int .i64 s]] w fun e w'=>e=.returned (.int .i64 (mayM l a s))∧Below w.heap.size w w':=by
 have hd:decide (a < 0)=false:=decide_eq_false (by omega)
 obtain ⟨l1,l2,l3⟩:=okM_true h
 go_enter Tryz.func155,Tryz.ntmps155
 go_wp2_with (go_at_call 107;refine (bmay_any _ _ _ _).mono ?_;rintro e w' ⟨rfl,rfl⟩)
 refine (pmay_any _ _ _).mono ?_
 rintro e w2 ⟨rfl,hw2⟩
 have L0:Loc w2 w.heap.size 0 (.slice f l c):=by rw [hw2];exact (((Loc.new w _ _ _ 0 _ rfl rfl).alloc _).alloc _).alloc _
 have L1:Loc w2 (w.heap.size+1) 0 (.int .i64 a):=by rw [hw2];exact ((Loc.new _ _ _ _ 0 _ (by simp) rfl).alloc _).alloc _
 have L2:Loc w2 (w.heap.size+1) 1 (.int .i64 s):=by rw [hw2];exact ((Loc.new _ _ _ _ 1 _ (by simp) rfl).alloc _).alloc _
 have hB:Below w.heap.size w w2:=by rw [hw2];go_grown
 have c0:=L0.cell
 have c1:=L1.cell
 have c2:=L2.cell
 have HB:=Lib.hid hB
 clear hw2 L0 L1 L2 hB
 go_wp2_with fail
 go_region_held3 (fun w'=>w'.cell? ⟨w.heap.size,0,none⟩=some (.slice f l c)∧w'.cell? ⟨w.heap.size+1,0,none⟩=some (.int .i64 a)∧w'.cell? ⟨w.heap.size+1,1,none⟩=some (.int .i64 s)) (go_keep)
  (first | (go_at_call 201;refine (bbytes_any _ _ _ _ (by omega)).mono ?_;rintro e w' ⟨rfl,rfl⟩))
 rename_i hHeld
 obtain ⟨k0,k1,k2⟩:=hHeld
 have HB3:=Lib.hid (Below.drew (bel_alloc HB.out (.cells #[.slice f l c] 143)))
 by_cases hb:(l:Int) * 8≤a
 ·have E:Hid (mayM l a s=2):=by unfold mayM;rw [if_neg (by simp [hs]),if_pos (.inr (by omega))];rfl
  go_wp2
  go_ret
  exact ⟨ret_int E.out.symm,HB3.out⟩
 ·by_cases hq:a % s=0
  ·have hq':(a % s != 0)=false:=by simpa using hq
   have E:Hid (mayM l a s=0):=by unfold mayM;rw [if_neg (by simp [hs]),if_neg (by omega),if_neg (fun h=>h hq)];rfl
   rcases okS_true hs with rfl | rfl | rfl | rfl
   all_goals
    clear hq hs
    go_wp2
    go_ret
    exact ⟨ret_int E.out.symm,HB3.out⟩
  ·have hq':(a % s != 0)=true:=by simpa using hq
   have E:Hid (mayM l a s=8):=by unfold mayM;rw [if_neg (by simp [hs]),if_neg (by omega),if_pos hq];rfl
   rcases okS_true hs with rfl | rfl | rfl | rfl
   ·omega
   all_goals
    clear hq hs
    go_wp2
    go_ret
    exact ⟨ret_int E.out.symm,HB3.out⟩
theorem allows_any (f:Option Addr) (l c:Nat) (a s:Int) (w:World) :
  Calls Tryz.prog 155 #[.agg #[.slice f l c],.agg #[.int .i64 a,.int .i64 s]] w fun e w'=>e=.returned (.int .i64 (if okM l=true then mayM l a s else 1))∧Below w.heap.size w w':=by
 by_cases h:okM l=true
 ·rw [if_pos h]
  by_cases hs:okS s=true
  ·by_cases ha:a < 0
   ·have e:mayM l a s=2:=by unfold mayM;rw [if_neg (by simp [hs]),if_pos (.inl ha)]
    rw [e]
    exact allows_neg f l c a s w h hs ha
   ·exact allows_pos f l c a s w h hs (by omega)
  ·have hs':okS s=false:=by simpa using hs
   have e:mayM l a s=1:=by unfold mayM;rw [if_pos hs']
   rw [e]
   exact allows_noS f l c a s w h hs'
 ·rw [if_neg h]
  exact allows_noM f l c a s w (by simpa using h)
theorem mcheck_any (f:Option Addr) (l c:Nat) (w:World) :
  Calls Tryz.prog 80 #[.agg #[.slice f l c]] w fun e w'=>e=.returned (.int .i64 (if okM l=true then 0 else 1))∧Below w.heap.size w w':=by
 cases h:okM l
 all_goals
  go_enter Tryz.func80,Tryz.ntmps80
  go_wp2_with (go_at_call 107;refine (bmay_any _ _ _ _).mono ?_;rintro e w' ⟨rfl,rfl⟩)
  go_ret
  exact ⟨rfl,by go_grown⟩
theorem frames_any (f:Option Addr) (l c:Nat) (w:World) :
  Calls Tryz.prog 57 #[.agg #[.slice f l c]] w fun e w'=>e=.returned (if okM l=true then .tuple #[.int .i64 ((l:Int) / 8),.int .i64 0] else .tuple #[.int .i64 0,.int .i64 1])∧Below w.heap.size w w':=by
 have L0:Loc (w.alloc (.cells #[.slice f l c] 24)) w.heap.size 0 (.slice f l c):=Loc.new w _ _ _ 0 _ rfl rfl
 have hb1:Below w.heap.size w (w.alloc (.cells #[.slice f l c] 24)):=bel_alloc (Below.refl _ _) _
 have HL:=Lib.hid L0
 have HB:=Lib.hid hb1
 clear L0 hb1
 cases h:okM l
 ·go_enter Tryz.func57,Tryz.ntmps57
  go_wp2_with fail
  refine (mcheck_any _ _ _ _).mono ?_
  rw [h]
  rintro e w1 ⟨rfl,hb⟩
  go_wp2
  go_ret2
  exact ⟨rfl,bel_trans HB.out hb⟩
 ·obtain ⟨l1,l2,l3⟩:=okM_true h
  go_enter Tryz.func57,Tryz.ntmps57
  go_wp2_with fail
  refine (mcheck_any _ _ _ _).mono ?_
  rw [h]
  rintro e w1 ⟨rfl,hb⟩
  have c1:=(HL.out.below hb).cell
  go_wp2_with (go_at_call 81;refine (bframes_any _ _ _ _ (by omega)).mono ?_;rintro e w2 ⟨rfl,rfl⟩)
  go_ret2
  exact ⟨rfl,bel_alloc (bel_trans HB.out hb) _⟩
end
end Go.Proofs.YtlgpdbgingjpbaaGreat
