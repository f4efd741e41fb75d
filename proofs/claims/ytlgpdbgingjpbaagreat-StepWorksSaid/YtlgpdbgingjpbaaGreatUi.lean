/- Stage 15: the small program,step by step. -/
import Derived.Test.YtlgpdbgingjpbaaGreatUh
import Derived.Test.YtlgpdbgingjpbaaGreatUd
set_option linter.all false
namespace Go.Proofs.YtlgpdbgingjpbaaGreat
open Go.ChangeShapes Go.WideShapes Go.ChangeAt Go.RowKit Go.Deep
def insS (n i:Nat):Ins:=if i=0 then ⟨1,1,0,0,(n:Int)⟩ else if i=1 then ⟨1,2,0,0,1536⟩ else if (i - 2) % 5=0 then ⟨10,0,1,0,4⟩ else if (i - 2) % 5=1 then ⟨8,1,2,2,0⟩ else if (i - 2) % 5=2 then ⟨1,3,0,0,1⟩ else if (i - 2) % 5=3 then ⟨3,1,1,3,0⟩ else ⟨9,0,0,0,-5⟩
def codeI (n:Nat):Nat→Nat→BitVec 64
 | 0=>leafX
 | k+1=>wrV (codeI n k) (1280+4 * (k:Int)) 4 (BitVec.ofInt 64 (wordI (insS n k)))
def storeI (n:Nat):Nat→Nat→BitVec 64
 | 0=>codeI n 7
 | k+1=>wrV (storeI n k) 1536 4 (BitVec.ofNat 64 (n - k))
def XS (n i:Nat):Nat→BitVec 64:=storeI n ((i+1) / 5)
def e20:Ety:=⟨2,0,0,true,20,0,20,0,⟨true,true,true,true,false,0⟩⟩
def e24:Ety:=⟨2,0,0,true,24,0,24,0,⟨true,true,true,true,false,0⟩⟩
def ES (i:Nat):List Ety:=if i=0 then [] else if i < 4 then [e20] else [e20,e24]
def rS (n i:Nat):Rg:=⟨0,if i=0 then 0 else BitVec.ofNat 64 (n - (i - 1) / 5),if i < 2 then 0 else 1536#64,if i < 5 then 0 else 1#64,0,0,0,0,if i=0 then 1280#64 else if i=1 then 1284#64 else if i=5 * n+3 then 1308#64 else BitVec.ofNat 64 (1288+4 * ((i - 2) % 5)),0,0,256#64,0,0,0⟩
def kS (n i:Nat) (f:Option Addr) (c:Nat):CorK:=⟨f,256,c,XS n i,0,true,0,0,0,false,decide (i % 3=0),false,-1,decide (i % 2=0),0,0,⟨0,0,0,0,0⟩,flt0,0,rS n i⟩
def pS (n i:Nat):AcR:=pageA (trK (kS n i none 0) false 0 0 (pgA (rS n i).pc) 2).a false (ES i) (pgA (rS n i).pc) 2 (-1)
def qS (n i:Nat):AcR:=pageA (trK (kS n i none 0) false 0 0 (pgA (rS n i).x2) 1).a false (pS n i).2.E (pgA (rS n i).x2) 1 (-1)
def wS (n i:Nat):Int:=IntKind.u32.wrap (u (rdV (XS n i) (20 * 64+inA (rS n i).pc) 4))
def nxS (n i:Nat):Rg:=
 if (insS n i).op=1 then
  if (insS n i).d=1 then nextR { rS n i with x1:=doI 1 (insS n i).i (rS n i).x0 (rS n i).x0 } (fun _=>0) 0
  else if (insS n i).d=2 then nextR { rS n i with x2:=doI 1 (insS n i).i (rS n i).x0 (rS n i).x0 } (fun _=>0) 0
  else nextR { rS n i with x3:=doI 1 (insS n i).i (rS n i).x0 (rS n i).x0 } (fun _=>0) 0
 else if (insS n i).op=3 then nextR { rS n i with x1:=doI 3 0 (rS n i).x1 (rS n i).x3 } (fun _=>0) 0
 else if (insS n i).op=9 then nextR (rS n i) (fun _=>-5) 1
 else if (insS n i).op=10 then if ((u (rS n i).x1:Int)==0)=true then nextR (rS n i) (fun _=>4) 1 else nextR (rS n i) (fun _=>0) 0
 else nextR (rS n i) (fun _=>0) 0
def fetS (n i:Nat):Bool:=
 decide ((pS n i).1.1=20)&&(decide ((pS n i).1.2=flt0)&&(decide ((pS n i).2.R.length≤1000)&&(mayB14 (trK (kS n i none 0) false 0 0 (pgA (rS n i).pc) 2) (ES i) []&&(decide (mayM 256 (20 * 64+inA (rS n i).pc) 4=0)&&(decide (0≤wS n i)&&(decide (wS n i≤4294967295)&&(!(Int.tmod (u (rS n i).pc) 4 != 0)&&(decide (u (rS n i).pc < 262144)&&(decide (oneR (rS n i)=⟨false,0,0⟩)&&(mayT (ES i) []&&(heldB 32 (ES i)&&decide ((ES i).length≤8))))))))))))
def stoS (n i:Nat):Bool:=
 decide ((qS n i).1.1=24)&&(decide ((qS n i).1.2=flt0)&&(decide ((qS n i).2.R.length≤1000)&&(mayB14 (trK (kS n i none 0) false 0 0 (pgA (rS n i).x2) 1) (pS n i).2.E []&&(decide (mayM 256 (24 * 64+inA (rS n i).x2) 4=0)&&(!(Int.tmod (u (rS n i).x2) 4 != 0)&&(decide (u (rS n i).x2 < 262144)&&(decide ((24 * 64+inA (rS n i).x2:Int)=1536)&&(decide ((rS n i).x1=BitVec.ofNat 64 (n - (i+1) / 5))&&(decide ((i+1+1) / 5=(i+1) / 5+1)&&(decide (ES (i+1)=(qS n i).2.E)&&decide ((pS n i).2.E.length≤8)))))))))))
def chkS (n i:Nat):Bool:=
 fetS n i&&(isI (wS n i)&&(decide (ofI (wS n i)=insS n i)&&(decide (rS n (i+1)=nxS n i)&&((u (rS n i).pc != 1308)&&((decide (6 < (insS n i).op)||mayDo (insS n i))&&(if (insS n i).op=8 then stoS n i else decide (ES (i+1)=(pS n i).2.E)&&decide ((i+1+1) / 5=(i+1) / 5)))))))
def kEnd (n:Nat) (f:Option Addr) (c:Nat):CorK:={ kS n (5 * n+3) f c with pm:=false,pu:=false }
def pEnd (n:Nat):AcR:=pageA (trK (kEnd n none 0) false 0 0 (pgA (rS n (5 * n+3)).pc) 2).a false (ES (5 * n+3)) (pgA (rS n (5 * n+3)).pc) 2 (-1)
def endS (n:Nat):Bool:=
 decide ((pEnd n).1.1=20)&&(decide ((pEnd n).1.2=flt0)&&(decide ((pEnd n).2.R.length≤1000)&&(mayB14 (trK (kEnd n none 0) false 0 0 (pgA (rS n (5 * n+3)).pc) 2) (ES (5 * n+3)) []&&(decide (mayM 256 (20 * 64+inA (rS n (5 * n+3)).pc) 4=0)&&(decide (0≤wS n (5 * n+3))&&(decide (wS n (5 * n+3)≤4294967295)&&(!(Int.tmod (u (rS n (5 * n+3)).pc) 4 != 0)&&(decide (u (rS n (5 * n+3)).pc < 262144)&&(decide (oneR (rS n (5 * n+3))=⟨false,0,0⟩)&&(mayT (ES (5 * n+3)) []&&(heldB 32 (ES (5 * n+3))&&(decide ((ES (5 * n+3)).length≤8)&&
 (!isI (wS n (5 * n+3))&&(decide (rdV (XS n (5 * n+3)) 1536 4=1#64)&&(decide ((rS n (5 * n+3)).pc=1308#64)&&decide ((rS n (5 * n+3)).x1=0#64))))))))))))))))
def RsS (n i:Nat):List Int:=if (insS n i).op=8 then (([]:List Int)++((pS n i).2.R++[20]))++((qS n i).2.R++[24]) else ([]:List Int)++((pS n i).2.R++[20])
theorem chk_1:(List.range 8).all (chkS 1)=true:=by kernel_rfl
theorem end_1:endS 1=true:=by kernel_rfl
theorem chk_2:(List.range 13).all (chkS 2)=true:=by kernel_rfl
theorem end_2:endS 2=true:=by kernel_rfl
theorem chk_3:(List.range 18).all (chkS 3)=true:=by kernel_rfl
theorem end_3:endS 3=true:=by kernel_rfl
theorem chk_4:(List.range 23).all (chkS 4)=true:=by kernel_rfl
theorem end_4:endS 4=true:=by kernel_rfl
theorem chk_5:(List.range 28).all (chkS 5)=true:=by kernel_rfl
theorem end_5:endS 5=true:=by kernel_rfl
theorem chk_6:(List.range 33).all (chkS 6)=true:=by kernel_rfl
theorem end_6:endS 6=true:=by kernel_rfl
theorem chk_7:(List.range 38).all (chkS 7)=true:=by kernel_rfl
theorem end_7:endS 7=true:=by kernel_rfl
theorem chk_8:(List.range 43).all (chkS 8)=true:=by kernel_rfl
theorem end_8:endS 8=true:=by kernel_rfl
theorem chk_9:(List.range 48).all (chkS 9)=true:=by kernel_rfl
theorem end_9:endS 9=true:=by kernel_rfl
theorem chk_any {n i:Nat} (n1:1≤n) (n9:n≤9) (hi:i < 5 * n+3):chkS n i=true:=by
 have:n=1∨n=2∨n=3∨n=4∨n=5∨n=6∨n=7∨n=8∨n=9:=by omega
 rcases this with rfl | rfl | rfl | rfl | rfl | rfl | rfl | rfl | rfl
 ·exact List.all_eq_true.1 chk_1 i (List.mem_range.2 hi)
 ·exact List.all_eq_true.1 chk_2 i (List.mem_range.2 hi)
 ·exact List.all_eq_true.1 chk_3 i (List.mem_range.2 hi)
 ·exact List.all_eq_true.1 chk_4 i (List.mem_range.2 hi)
 ·exact List.all_eq_true.1 chk_5 i (List.mem_range.2 hi)
 ·exact List.all_eq_true.1 chk_6 i (List.mem_range.2 hi)
 ·exact List.all_eq_true.1 chk_7 i (List.mem_range.2 hi)
 ·exact List.all_eq_true.1 chk_8 i (List.mem_range.2 hi)
 ·exact List.all_eq_true.1 chk_9 i (List.mem_range.2 hi)
theorem end_any {n:Nat} (n1:1≤n) (n9:n≤9):endS n=true:=by
 have:n=1∨n=2∨n=3∨n=4∨n=5∨n=6∨n=7∨n=8∨n=9:=by omega
 rcases this with rfl | rfl | rfl | rfl | rfl | rfl | rfl | rfl | rfl
 ·exact end_1
 ·exact end_2
 ·exact end_3
 ·exact end_4
 ·exact end_5
 ·exact end_6
 ·exact end_7
 ·exact end_8
 ·exact end_9
structure FetS (n i:Nat):Prop where
 hp:pS n i=((20,flt0),⟨(pS n i).2.E,(pS n i).2.R⟩)
 hR:(pS n i).2.R.length≤1000
 hB:mayB14 (trK (kS n i none 0) false 0 0 (pgA (rS n i).pc) 2) (ES i) []=true
 hq:mayM 256 (20 * 64+inA (rS n i).pc) 4=0
 h0:0≤wS n i
 h1:wS n i≤4294967295
 ha:(Int.tmod (u (rS n i).pc) 4 != 0)=false
 hv:u (rS n i).pc < 262144
 ho:oneR (rS n i)=⟨false,0,0⟩
 hT:mayT (ES i) []=true
 hH:heldB 32 (ES i)=true
 hl:(ES i).length≤8
theorem FetS.hH2 {n i:Nat} (F:FetS n i):heldB (((256:Nat):Int) / 8) (ES i)=true:=by
 rw [show ((256:Nat):Int) / 8=32 from by decide]
 exact F.hH
theorem fetS_tell {n i:Nat} (h:fetS n i=true):FetS n i:=by
 unfold fetS at h
 simp only [Bool.and_eq_true,decide_eq_true_eq,Bool.not_eq_true',Bool.or_eq_true] at h
 obtain ⟨a1,a2,a3,a4,a5,a6,a7,a8,a9,a10,a11,a12,a13⟩:=h
 exact ⟨Prod.ext (Prod.ext a1 a2) rfl,a3,a4,a5,a6,a7,a8,a9,a10,a11,a12,a13⟩
structure StoS (n i:Nat):Prop where
 hp:qS n i=((24,flt0),⟨(qS n i).2.E,(qS n i).2.R⟩)
 hR:(qS n i).2.R.length≤1000
 hB:mayB14 (trK (kS n i none 0) false 0 0 (pgA (rS n i).x2) 1) (pS n i).2.E []=true
 hq:mayM 256 (24 * 64+inA (rS n i).x2) 4=0
 ha:(Int.tmod (u (rS n i).x2) 4 != 0)=false
 hv:u (rS n i).x2 < 262144
 hi:(24 * 64+inA (rS n i).x2:Int)=1536
 hx:(rS n i).x1=BitVec.ofNat 64 (n - (i+1) / 5)
 hs:(i+1+1) / 5=(i+1) / 5+1
 hE:ES (i+1)=(qS n i).2.E
 hl:(pS n i).2.E.length≤8
theorem stoS_tell {n i:Nat} (h:stoS n i=true):StoS n i:=by
 unfold stoS at h
 simp only [Bool.and_eq_true,decide_eq_true_eq,Bool.not_eq_true',Bool.or_eq_true] at h
 obtain ⟨a1,a2,a3,a4,a5,a6,a7,a8,a9,a10,a11,a12⟩:=h
 exact ⟨Prod.ext (Prod.ext a1 a2) rfl,a3,a4,a5,a6,a7,a8,a9,a10,a11,a12⟩
structure ChkS (n i:Nat):Prop where
 hf:FetS n i
 hi:isI (wS n i)=true
 ho:ofI (wS n i)=insS n i
 hr:rS n (i+1)=nxS n i
 hpc:(u (rS n i).pc != 1308)=true
 hd:6 < (insS n i).op∨mayDo (insS n i)=true
 hs:(insS n i).op=8→StoS n i
 hn:(insS n i).op≠8→ES (i+1)=(pS n i).2.E∧XS n (i+1)=XS n i
theorem chkS_tell {n i:Nat} (h:chkS n i=true):ChkS n i:=by
 unfold chkS at h
 simp only [Bool.and_eq_true,decide_eq_true_eq,Bool.not_eq_true',Bool.or_eq_true] at h
 obtain ⟨a1,a2,a3,a4,a7,a5,a6⟩:=h
 refine ⟨fetS_tell a1,a2,a3,a4,a7,a5,fun h8=>?_,fun h8=>?_⟩
 ·rw [if_pos h8] at a6
  exact stoS_tell a6
 ·rw [if_neg h8] at a6
  simp only [Bool.and_eq_true,decide_eq_true_eq,Bool.not_eq_true',Bool.or_eq_true] at a6
  exact ⟨a6.1,by unfold XS;rw [a6.2]⟩
theorem sw_plain {n i:Nat} (C:ChkS n i) (h8:(insS n i).op≠8) (x:Ins) (hx:insS n i=x) (HDO:∀ (k':CorK) (b:Nat) (sA sR:Value) (w:World),k'.r=rS n i→w.heap[b]?=some (.cells (corL { k' with ins:=x } sA sR).toArray 86)→Calls Tryz.prog 63 #[.pointer (some ⟨b,0,none⟩)] w fun e w'=>e=.returned (.tuple #[])∧Fits [b] w [⟨b,0,86,corL { k' with ins:=x,r:=rS n (i+1) } sA sR,.own⟩] w')
  (g o c cE cD:Nat) (fE fD:Option Addr) (w:World) (hE:RowsAt KE w fE (ES i)) (hD:RowsAt KI w fD ([]:List Inv)) (hc:(ES i).length≤cE) (hc2:cE≤maxLen) (hf:fE=none→cE=0) (hg:fD=none→cD=0) (hA:RowsAt KT w (some ⟨g,o,none⟩) [⟨fE,(ES i).length,cE,fD,0,cD⟩]) (bW oW cW:Nat) (hX:WordsAt w (some ⟨bW,oW,none⟩) 256 (XS n i)) (hb:Fits [] w [⟨g,o,77,[.slice fE (ES i).length cE,.slice fD 0 cD],.row⟩] w) :
  Calls Tryz.prog 16 #[.agg #[.slice (some ⟨bW,oW,none⟩) 256 cW],regV (rS n i),.slice (some ⟨g,o,none⟩) 1 c,.int .i64 0,.agg #[.bool true,.int .i64 0,.int .i64 0],.agg #[.int .i64 0,.bool false,.bool (decide (i % 3=0)),.bool false,.int .i64 (-1),.bool (decide (i % 2=0))]] w (StpG (kS n i (some ⟨bW,oW,none⟩) cW) 0 (insS n i) (rS n (i+1)) (XS n (i+1)) (ES (i+1)) [] (RsS n i) w):=by
 have F:=C.hf
 refine (sstep1_any (kS n i (some ⟨bW,oW,none⟩) cW) 0 g o c cE cD fE fD (ES i) [] w hE hD (by have:=F.hl;omega) (by decide) hc hc2 hf hg hA (by kernel_rfl) bW oW rfl hX (by kernel_rfl) rfl F.hT F.hH2 (pS n i).2.E 20 flt0 (pS n i).2.R false 0 0 (wS n i) x F.ha F.hq rfl F.h0 F.h1 C.hi (C.ho.trans hx) (rS n (i+1)) HDO F.hv F.ho F.hB F.hp rfl ⟨by decide,by decide⟩ (by have:=F.hR;omega) hb).mono fun e w' h=>?_
 unfold RsS
 rw [if_neg h8,(C.hn h8).2,(C.hn h8).1,hx]
 exact h
theorem sw_store {n i:Nat} (C:ChkS n i) (h8:insS n i=⟨8,1,2,2,0⟩) (g o c cE cD:Nat) (fE fD:Option Addr) (w:World) (hE:RowsAt KE w fE (ES i)) (hD:RowsAt KI w fD ([]:List Inv)) (hc:(ES i).length≤cE) (hc2:cE≤maxLen) (hf:fE=none→cE=0) (hg:fD=none→cD=0) (hA:RowsAt KT w (some ⟨g,o,none⟩) [⟨fE,(ES i).length,cE,fD,0,cD⟩]) (bW oW cW:Nat) (hX:WordsAt w (some ⟨bW,oW,none⟩) 256 (XS n i)) (hb:Fits [] w [⟨g,o,77,[.slice fE (ES i).length cE,.slice fD 0 cD],.row⟩] w) :
  Calls Tryz.prog 16 #[.agg #[.slice (some ⟨bW,oW,none⟩) 256 cW],regV (rS n i),.slice (some ⟨g,o,none⟩) 1 c,.int .i64 0,.agg #[.bool true,.int .i64 0,.int .i64 0],.agg #[.int .i64 0,.bool false,.bool (decide (i % 3=0)),.bool false,.int .i64 (-1),.bool (decide (i % 2=0))]] w (StpG (kS n i (some ⟨bW,oW,none⟩) cW) 0 (insS n i) (rS n (i+1)) (XS n (i+1)) (ES (i+1)) [] (RsS n i) w):=by
 have F:=C.hf
 have S:=C.hs (by rw [h8])
 have hr:nextR (rS n i) (fun _=>0) 0=rS n (i+1):=by
  rw [C.hr]
  unfold nxS
  rw [h8]
  rfl
 refine (sstep1_store (kS n i (some ⟨bW,oW,none⟩) cW) 0 g o c cE cD fE fD (ES i) [] w hE hD (by have:=F.hl;omega) (by decide) hc hc2 hf hg hA (by kernel_rfl) bW oW rfl hX (by kernel_rfl) rfl F.hT F.hH2 (pS n i).2.E 20 flt0 (pS n i).2.R false 0 0 (wS n i) F.ha F.hq rfl F.h0 F.h1 C.hi (C.ho.trans h8) (rS n (i+1)) hr S.ha (qS n i).2.E 24 flt0 (qS n i).2.R S.hq (by have:=S.hl;omega) (by have:=F.hR;simp only [List.nil_append,List.length_append,List.length_singleton];omega) F.ho F.hv F.hB F.hp rfl ⟨by decide,by decide⟩ (by have:=F.hR;omega) S.hv S.hB S.hp rfl ⟨by decide,by decide⟩ (by have:=S.hR;omega) hb).mono fun e w' h=>?_
 have hXS:XS n (i+1)=wrV (XS n i) (24 * 64+inA (rS n i).x2) 4 (rS n i).x1:=by
  unfold XS
  rw [S.hs,S.hi,S.hx]
  rfl
 unfold RsS
 rw [if_pos (by rw [h8]),hXS,S.hE,h8]
 exact h
theorem sw_step {n i:Nat} (n1:1≤n) (n9:n≤9) (hi:i < 5 * n+3) (g o c cE cD:Nat) (fE fD:Option Addr) (w:World) (hE:RowsAt KE w fE (ES i)) (hD:RowsAt KI w fD ([]:List Inv)) (hc:(ES i).length≤cE) (hc2:cE≤maxLen) (hf:fE=none→cE=0) (hg:fD=none→cD=0) (hA:RowsAt KT w (some ⟨g,o,none⟩) [⟨fE,(ES i).length,cE,fD,0,cD⟩]) (bW oW cW:Nat) (hX:WordsAt w (some ⟨bW,oW,none⟩) 256 (XS n i)) (hb:Fits [] w [⟨g,o,77,[.slice fE (ES i).length cE,.slice fD 0 cD],.row⟩] w) :
  Calls Tryz.prog 16 #[.agg #[.slice (some ⟨bW,oW,none⟩) 256 cW],regV (rS n i),.slice (some ⟨g,o,none⟩) 1 c,.int .i64 0,.agg #[.bool true,.int .i64 0,.int .i64 0],.agg #[.int .i64 0,.bool false,.bool (decide (i % 3=0)),.bool false,.int .i64 (-1),.bool (decide (i % 2=0))]] w (StpG (kS n i (some ⟨bW,oW,none⟩) cW) 0 (insS n i) (rS n (i+1)) (XS n (i+1)) (ES (i+1)) [] (RsS n i) w):=by
 have C:=chkS_tell (chk_any n1 n9 hi)
 have hcl:i=0∨i=1∨(2≤i∧((i - 2) % 5=0∨(i - 2) % 5=1∨(i - 2) % 5=2∨(i - 2) % 5=3∨(i - 2) % 5=4)):=by omega
 have MD:(insS n i).op≤6→mayDo (insS n i)=true:=fun h=>C.hd.resolve_left (by omega)
 rcases hcl with rfl | rfl | ⟨h2,h | h | h | h | h⟩
 ·have hx:insS n 0=⟨1,1,0,0,(n:Int)⟩:=rfl
  exact (sw_plain C (by rw [hx];show (1:Int)≠8;decide) _ hx (fun k' b sA sR w hr hb=>sdo_1100 k' (n:Int) b sA sR _ _ w (hx ▸ MD (by rw [hx];show (1:Int)≤6;decide)) (by rw [hr]) (by rw [hr,C.hr];unfold nxS;rw [hx];rfl) hb) g o c cE cD fE fD w hE hD hc hc2 hf hg hA bW oW cW hX hb)
 ·have hx:insS n 1=⟨1,2,0,0,1536⟩:=rfl
  exact (sw_plain C (by rw [hx];decide) _ hx (fun k' b sA sR w hr hb=>sdo_1200 k' 1536 b sA sR _ _ w (hx ▸ MD (by rw [hx];decide)) (by rw [hr]) (by rw [hr,C.hr];unfold nxS;rw [hx];rfl) hb) g o c cE cD fE fD w hE hD hc hc2 hf hg hA bW oW cW hX hb)
 ·have hx:insS n i=⟨10,0,1,0,4⟩:=by unfold insS;rw [if_neg (by omega),if_neg (by omega),if_pos h]
  cases hz:((u (rS n i).x1:Int)==0)
  ·exact (sw_plain C (by rw [hx];decide) _ hx (fun k' b sA sR w hr hb=>sdo_zero_no k' 4 b sA sR _ w (by rw [hr];exact hz) (by rw [hr,C.hr];unfold nxS;rw [hx,hz];rfl) hb) g o c cE cD fE fD w hE hD hc hc2 hf hg hA bW oW cW hX hb)
  ·exact (sw_plain C (by rw [hx];decide) _ hx (fun k' b sA sR w hr hb=>sdo_zero_yes k' 4 b sA sR _ w (by rw [hr];exact hz) (by rw [hr,C.hr];unfold nxS;rw [hx,hz];rfl) hb) g o c cE cD fE fD w hE hD hc hc2 hf hg hA bW oW cW hX hb)
 ·have hx:insS n i=⟨8,1,2,2,0⟩:=by unfold insS;rw [if_neg (by omega),if_neg (by omega),if_neg (by omega),if_pos h]
  exact (sw_store C hx g o c cE cD fE fD w hE hD hc hc2 hf hg hA bW oW cW hX hb)
 ·have hx:insS n i=⟨1,3,0,0,1⟩:=by unfold insS;rw [if_neg (by omega),if_neg (by omega),if_neg (by omega),if_neg (by omega),if_pos h]
  exact (sw_plain C (by rw [hx];decide) _ hx (fun k' b sA sR w hr hb=>sdo_1300 k' 1 b sA sR _ _ w (hx ▸ MD (by rw [hx];decide)) (by rw [hr]) (by rw [hr,C.hr];unfold nxS;rw [hx];rfl) hb) g o c cE cD fE fD w hE hD hc hc2 hf hg hA bW oW cW hX hb)
 ·have hx:insS n i=⟨3,1,1,3,0⟩:=by unfold insS;rw [if_neg (by omega),if_neg (by omega),if_neg (by omega),if_neg (by omega),if_neg (by omega),if_pos h]
  exact (sw_plain C (by rw [hx];decide) _ hx (fun k' b sA sR w hr hb=>sdo_3113 k' 0 b sA sR _ _ w (hx ▸ MD (by rw [hx];decide)) (by rw [hr]) (by rw [hr,C.hr];unfold nxS;rw [hx];rfl) hb) g o c cE cD fE fD w hE hD hc hc2 hf hg hA bW oW cW hX hb)
 ·have hx:insS n i=⟨9,0,0,0,-5⟩:=by unfold insS;rw [if_neg (by omega),if_neg (by omega),if_neg (by omega),if_neg (by omega),if_neg (by omega),if_neg (by omega)]
  exact (sw_plain C (by rw [hx];decide) _ hx (fun k' b sA sR w hr hb=>sdo_jump k' (-5) b sA sR _ w (by rw [hr,C.hr];unfold nxS;rw [hx];rfl) hb) g o c cE cD fE fD w hE hD hc hc2 hf hg hA bW oW cW hX hb)
structure EndB (n:Nat):Prop where
 hp:pEnd n=((20,flt0),⟨(pEnd n).2.E,(pEnd n).2.R⟩)
 hR:(pEnd n).2.R.length≤1000
 hB:mayB14 (trK (kEnd n none 0) false 0 0 (pgA (rS n (5 * n+3)).pc) 2) (ES (5 * n+3)) []=true
 hq:mayM 256 (20 * 64+inA (rS n (5 * n+3)).pc) 4=0
 h0:0≤wS n (5 * n+3)
 h1:wS n (5 * n+3)≤4294967295
 ha:(Int.tmod (u (rS n (5 * n+3)).pc) 4 != 0)=false
 hv:u (rS n (5 * n+3)).pc < 262144
 ho:oneR (rS n (5 * n+3))=⟨false,0,0⟩
 hT:mayT (ES (5 * n+3)) []=true
 hH:heldB 32 (ES (5 * n+3))=true
 hl:(ES (5 * n+3)).length≤8
 hi:isI (wS n (5 * n+3))=false
 hr:rdV (XS n (5 * n+3)) 1536 4=1#64
 hpc:(rS n (5 * n+3)).pc=1308#64
 hx:(rS n (5 * n+3)).x1=0#64
theorem EndB.hH2 {n:Nat} (F:EndB n):heldB (((256:Nat):Int) / 8) (ES (5 * n+3))=true:=by
 rw [show ((256:Nat):Int) / 8=32 from by decide]
 exact F.hH
theorem endS_tell {n:Nat} (h:endS n=true):EndB n:=by
 unfold endS at h
 simp only [Bool.and_eq_true,decide_eq_true_eq,Bool.not_eq_true',Bool.or_eq_true] at h
 obtain ⟨a1,a2,a3,a4,a5,a6,a7,a8,a9,a10,a11,a12,a13,a14,a15,a16,a17⟩:=h
 exact ⟨Prod.ext (Prod.ext a1 a2) rfl,a3,a4,a5,a6,a7,a8,a9,a10,a11,a12,a13,a14,a15,a16,a17⟩
theorem sw_bad {n:Nat} (F:EndB n) (g o c cE cD:Nat) (fE fD:Option Addr) (w:World) (hE:RowsAt KE w fE (ES (5 * n+3))) (hD:RowsAt KI w fD ([]:List Inv)) (hc:(ES (5 * n+3)).length≤cE) (hc2:cE≤maxLen) (hf:fE=none→cE=0) (hg:fD=none→cD=0) (hA:RowsAt KT w (some ⟨g,o,none⟩) [⟨fE,(ES (5 * n+3)).length,cE,fD,0,cD⟩]) (bW oW cW:Nat) (hX:WordsAt w (some ⟨bW,oW,none⟩) 256 (XS n (5 * n+3))) (hb:Fits [] w [⟨g,o,77,[.slice fE (ES (5 * n+3)).length cE,.slice fD 0 cD],.row⟩] w) :
  Calls Tryz.prog 16 #[.agg #[.slice (some ⟨bW,oW,none⟩) 256 cW],regV (rS n (5 * n+3)),.slice (some ⟨g,o,none⟩) 1 c,.int .i64 0,.agg #[.bool true,.int .i64 0,.int .i64 0],.agg #[.int .i64 0,.bool false,.bool false,.bool false,.int .i64 (-1),.bool false]] w (StpG (kEnd n (some ⟨bW,oW,none⟩) cW) 1 ⟨0,0,0,0,0⟩ (trapR (rS n (5 * n+3)) 33554432#64 (rS n (5 * n+3)).pc) (XS n (5 * n+3)) (pEnd n).2.E [] (([]:List Int)++((pEnd n).2.R++[20])) w):=
 (sstep1_bad (kEnd n (some ⟨bW,oW,none⟩) cW) 0 g o c cE cD fE fD (ES (5 * n+3)) [] w hE hD (by have:=F.hl;omega) (by decide) hc hc2 hf hg hA (by kernel_rfl) bW oW rfl hX (by kernel_rfl) rfl F.hT F.hH2 (pEnd n).2.E 20 flt0 (pEnd n).2.R false 0 0 (wS n (5 * n+3)) _ F.ha F.hq rfl F.h0 F.h1 F.hi rfl _ rfl F.ho F.hv F.hB F.hp rfl ⟨by decide,by decide⟩ (by have:=F.hR;omega) hb)
end Go.Proofs.YtlgpdbgingjpbaaGreat
