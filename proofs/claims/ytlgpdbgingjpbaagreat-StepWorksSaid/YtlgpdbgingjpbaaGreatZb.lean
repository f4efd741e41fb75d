/- Stage 14: the landed package access: what may begin: contracts. -/
import Derived.Test.YtlgpdbgingjpbaaGreatZa
import Derived.Test.YtlgpdbgingjpbaaGreatNa
import Derived.Test.YtlgpdbgingjpbaaGreatVe
import Derived.Test.YtlgpdbgingjpbaaGreatMemE
set_option linter.all false
namespace Go.Proofs.YtlgpdbgingjpbaaGreat
open Go.ChangeShapes Go.WideShapes Go.ChangeAt Go.RowKit Go.Deep
structure TrC where
 f:Option Addr
 l:Nat
 c:Nat
 X:Nat→BitVec 64
 on1:Bool
 of1:Int
 tg1:Int
 on2:Bool
 tf:Int
 tg:Int
 pc:Int
 pf:Bool
 pm:Bool
 pw:Bool
 pd:Int
 pu:Bool
 pg:Int
 acc:Int
def trpC (k:TrC) (lv fr:Int) (sE sD sR:Value):List Value:=[sE,sD,.int .i64 k.pc,.bool k.pf,.bool k.pm,.bool k.pw,.int .i64 k.pd,.bool k.pu,.int .i64 k.tg,.int .i64 k.tg1,.slice k.f k.l k.c,.bool k.on2,.int .i64 k.tf,.int .i64 k.tg,sR,.bool k.on1,.int .i64 k.of1,.int .i64 k.tg1,.int .i64 k.pg,.int .i64 k.acc,.int .i64 fr,.int .i64 lv]
abbrev TrC.a (k:TrC):AcW:=⟨k.l,k.X,k.of1,k.tg1,k.tf,k.tg,k.pf,k.pm,k.pw,k.pu⟩
theorem own_room {W:World} {e s n c:Nat} {f:Option Addr} {xs:List Value} (h:OwnP e s f n c xs W):n≤c∧c≤maxLen∧(f=none→c=0):=by
 rcases h.2 with ⟨he,h0⟩ | ⟨g,cap,cur,he,hb,hg,hnc,hm,hs,ht⟩
 ·injection he with h1 h2 h3
  subst h1 h2 h3
  exact ⟨Nat.le_refl _,Nat.zero_le _,fun _=>rfl⟩
 ·injection he with h1 h2 h3
  subst h1 h3
  exact ⟨hnc,hm,fun h=>nomatch h⟩
def mayC14 (k:TrC) (Es:List Ety) (Ds:List Inv):Bool:=okM k.l&&((mayT Es Ds&&(numB k.tg 15&&numB k.tg1 15))&&(heldB ((k.l:Int) / 8) Es&&(k.on2&&numB k.tf 4095)))
def mayB14 (k:TrC) (Es:List Ety) (Ds:List Inv):Bool:=numB k.acc 2&&(mayC14 k Es Ds&&(numB k.of1 4095&&numB k.pg 4095))
theorem aup_any (n m:Int) (w:World) :
  Calls Tryz.prog 231 #[.int .i64 n,.int .i64 m] w fun e w'=>e=.returned (.bool (numB n m))∧Below w.heap.size w w':=by
 obtain ⟨q0,hq0⟩:∃ b,(decide ((n:Int)≥0))=b:=⟨_,rfl⟩
 obtain ⟨q1,hq1⟩:∃ b,(decide ((n:Int)≤m))=b:=⟨_,rfl⟩
 exact calls_ex mixedT [] (.r 1 [(1,.rw (fun _=>.bool (decide ((n:Int)≥0))) (fun _=>.bool q0)),(5,.rw (fun _=>.bool (decide ((n:Int)≤m))) (fun _=>.bool q1))] (.fin [] (fun _=>.bool (q0&&q1)) [])) Tryz.func231 rfl (Fits.nil w) (⟨fun _=>congrArg Value.bool hq0,fun _=>congrArg Value.bool hq1,fun _ _ h _=>⟨ret_bool (by subst hq0 hq1;unfold numB;rw [Bool.eq_iff_iff];simp),h.below⟩⟩) rfl (fun _=>by cases q0<;>kernel_rfl)
theorem afault_any (x:Flt) (w:World) :
  Calls Tryz.prog 236 #[fltV x] w fun e w'=>e=.returned (.bool (x.k != 0))∧Below w.heap.size w w':=by
 exact calls_ex mixedT [] (.r 1 [a1 1 0 0] (.fin [] (fun _=>.bool (x.k != 0)) [])) Tryz.func236 rfl (Fits.nil w) (fun _ _ h _=>⟨rfl,h.below⟩) rfl (fun _=>by kernel_rfl)
theorem acmay_any (k:TrC) (lv fr:Int) (b:Nat) (fE fD:Option Addr) (cE cD:Nat) (Es:List Ety) (Ds:List Inv) (sR:Value) (w:World) (hE:RowsAt KE w fE Es) (hD:RowsAt KI w fD Ds) (hls:Es.length≤90000) (hms:Ds.length≤90000) (hc:Es.length≤cE) (hc2:cE≤maxLen) (hb:Fits [] w [⟨b,0,262,trpC k lv fr (.slice fE Es.length cE) (.slice fD Ds.length cD) sR,.row⟩] w) :
  Calls Tryz.prog 252 #[.pointer (some ⟨b,0,none⟩)] w fun e w'=>e=.returned (.bool (mayT Es Ds&&(numB k.tg 15&&numB k.tg1 15)))∧Below w.heap.size w w':=by
 obtain ⟨q0,hq0⟩:∃ b,((if mayT Es Ds=true then (0:Int) else 1)==0)=b:=⟨_,rfl⟩
 obtain ⟨q1,hq1⟩:∃ b,(numB k.tg 15)=b:=⟨_,rfl⟩
 obtain ⟨q2,hq2⟩:∃ b,(numB k.tg1 15)=b:=⟨_,rfl⟩
 exact calls_ex mixedT [⟨b,0,262,trpC k lv fr (.slice fE Es.length cE) (.slice fD Ds.length cD) sR,.row⟩] (.r 1 [aN 3 0 0 2,(4,.call 82 (fun _=>[.agg #[.slice fE Es.length cE,.slice fD Ds.length cD]]) (fun _=>.int .i64 (if mayT Es Ds=true then (0:Int) else 1))),(5,.rw (fun _=>.bool ((if mayT Es Ds=true then (0:Int) else 1)==0)) (fun _=>.bool q0)),a1 10 0 8,(11,.call 231 (fun _=>[.int .i64 k.tg,.int .i64 15]) (fun _=>.bool q1)),a1 17 0 9,(18,.call 231 (fun _=>[.int .i64 k.tg1,.int .i64 15]) (fun _=>.bool q2))] (.fin [] (fun _=>.bool ((q0&&q1)&&q2)) [])) Tryz.func252 rfl hb (⟨fun _ W hk=>checkC fE fD _ cE _ cD Es Ds W (hE.below hk.below) rfl (hD.below hk.below) rfl hls hms hc hc2,fun _=>congrArg Value.bool hq0,fun _ W _=>(aup_any _ _ W).mono fun _ _ hJ=>⟨hJ.1.trans (by rw [hq1]),hJ.2⟩,fun _ W _=>(aup_any _ _ W).mono fun _ _ hJ=>⟨hJ.1.trans (by rw [hq2]),hJ.2⟩,fun _ _ h _=>⟨ret_bool (by subst hq0 hq1 hq2;cases mayT Es Ds<;>cases numB k.tg 15<;>cases numB k.tg1 15<;>rfl),h.below⟩⟩) rfl (fun _=>by cases q0;(kernel_rfl);(cases q1<;>kernel_rfl))
set_option maxRecDepth 100000 in
theorem awithin_loop (fE:Option Addr) (l cE:Nat) (n:Int) (Es:List Ety) {w0 W:World} {a:Act} {R:Ending→World→Prop} (hE:RowsAt KE w0 fE Es) (hn:l=Es.length) (hl:l≤1000000) (hR:∀ w',Keep [] w0 w'→R (.returned (.bool (heldB n Es))) w')
  (hT:Has Tryz.f253.ntmps [(1,.int .i64 n),(11,.slice fE l cE),(12,.int .i64 l),(13,.int .i64 0)] a) (hF:Fits [] w0 [] W) :
  (nthLoop Tryz.f253 0).wp Tryz.prog (fun ze a w=>(ze=.exit 0∧Has Tryz.f253.ntmps [] a∧Fits [] w0 [] w∧(heldB n Es=true))∨(ze=.ret∧bodyPost Tryz.prog Tryz.f253 R .ret a w)) a W:=by
 rw [show nthLoop Tryz.f253 0=.loop (bodyOf (nthLoop Tryz.f253 0)) from by kernel_rfl]
 refine wp_loop_ex (fun (j:Nat) a w=>j≤l∧Has Tryz.f253.ntmps [(1,.int .i64 n),(11,.slice fE l cE),(12,.int .i64 l),(13,.int .i64 j)] a∧Fits [] w0 [] w∧(heldB n (Es.drop j)=heldB n Es)) (fun j=>l - j) 0 ⟨Nat.zero_le _,hT,hF,rfl⟩ fun j a w hI=>?_
 clear hT hF
 obtain ⟨hj,hT,hF,hV⟩:=hI
 by_cases hlt:j < l
 ·have hd:decide ((j:Int) < l)=true:=decide_eq_true (by omega)
  have hjw:IntKind.i64.wrap ((j:Int)+1)=((j+1:Nat):Int):=(IntWalk.i64_in _ (by omega)).trans (by omega)
  obtain ⟨qj,hqj⟩:∃ q,Es[j]?=some q:=⟨_,List.getElem?_eq_getElem (by omega)⟩
  obtain ⟨b1,o1,rfl,hF⟩:=hF.rows hE hqj (by exact Nat.le_refl _) (fun _ _=>nofun)
  rw [drop_cons hqj,heldB] at hV
  obtain ⟨q0,hq0⟩:∃ b,(decide ((qj.fr:Int)≥n))=b:=⟨_,rfl⟩
  exact wp_ex mixedT Tryz.f253 [(1,.int .i64 n),(11,.slice (some ⟨b1,o1,none⟩) l cE),(12,.int .i64 l),(13,.int .i64 j)] [⟨b1,o1+j * 14,121,(entC qj).toList,.row⟩] (.r 2 [(0,.rw (fun _=>.bool (decide ((j:Int) < l))) (fun _=>.bool true))] (.r 3 [(0,.ix 74 (fun _=>.slice (some ⟨b1,o1,none⟩) l cE) (fun _=>.int .i64 j) (fun _=>.pointer (some ⟨b1,o1+j * 14,none⟩))),aN 1 0 0 14,aN 3 1 0 14] (.r 4 [a1 1 1 6,(3,.rw (fun _=>.bool (decide ((qj.fr:Int)≥n))) (fun _=>.bool q0))] (.split (q0) (.fin [] (fun _=>.bool false) []) (.r 6 [(0,.rw (fun _=>.int .i64 (IntKind.i64.wrap (j+1))) (fun _=>.int .i64 ((j+1:Nat):Int)))] (.out none (fun _=>[(1,.int .i64 n),(11,.slice (some ⟨b1,o1,none⟩) l cE),(12,.int .i64 l),(13,.int .i64 ((j+1:Nat):Int))]) [])))))) hT hF (⟨fun _=>congrArg Value.bool hd,fun _ _=>ix_row 74 121 b1 o1 _ _ j 14 Tryz.underlying74 (by kernel_rfl) hlt,fun _=>congrArg Value.bool hq0,fun hS2=>fun _ _ hk _=>by rw [show false=heldB n Es from by rw [← hV];subst hq0;rw [decide_eq_false (Int.not_lt.2 (of_decide_eq_true hS2)),Bool.false_and]];exact hR _ hk,fun hS2=>⟨fun _=>by rw [hjw],fun _ _ _ hT1 hF1=>⟨j+1,⟨by omega,hT1,hF1,(by rw [← hV];subst hq0;rw [decide_eq_true (Int.not_le.1 (of_decide_eq_false hS2)),Bool.true_and])⟩,by omega⟩⟩⟩) (J:=fun ze a w=>match ze with | .normal=>∃ j',(j'≤l∧Has Tryz.f253.ntmps [(1,.int .i64 n),(11,.slice (some ⟨b1,o1,none⟩) l cE),(12,.int .i64 l),(13,.int .i64 j')] a∧Fits [] w0 [] w∧(heldB n (Es.drop j')=heldB n Es))∧l - j' < l - j | ze=>(ze=.exit 0∧Has Tryz.f253.ntmps [] a∧Fits [] w0 [] w∧(heldB n Es=true))∨(ze=.ret∧bodyPost Tryz.prog Tryz.f253 R .ret a w)) (fun _ _ h=>Or.inr ⟨rfl,h⟩) (fun e _ _ h=>by cases e<;>exact h) (fun _=>by kernel_rfl)
 ·have hd:decide ((j:Int) < l)=false:=decide_eq_false (by omega)
  exact wp_ex mixedT Tryz.f253 [(1,.int .i64 n),(11,.slice fE l cE),(12,.int .i64 l),(13,.int .i64 j)] [] (.r 2 [(0,.rw (fun _=>.bool (decide ((j:Int) < l))) (fun _=>.bool false))] (.out (some 0) (fun _=>[]) [])) hT hF (⟨fun _=>congrArg Value.bool hd,fun _ _ _ hT1 hF1=>Or.inl (by have hjl:j=l:=(by omega);subst hjl;exact ⟨rfl,hT1,hF1,by rw [← hV,hn,List.drop_length];rfl⟩)⟩) (J:=fun ze a w=>match ze with | .normal=>∃ j',(j'≤l∧Has Tryz.f253.ntmps [(1,.int .i64 n),(11,.slice fE l cE),(12,.int .i64 l),(13,.int .i64 j')] a∧Fits [] w0 [] w∧(heldB n (Es.drop j')=heldB n Es))∧l - j' < l - j | ze=>(ze=.exit 0∧Has Tryz.f253.ntmps [] a∧Fits [] w0 [] w∧(heldB n Es=true))∨(ze=.ret∧bodyPost Tryz.prog Tryz.f253 R .ret a w)) (fun _ _ h=>Or.inr ⟨rfl,h⟩) (fun e _ _ h=>by cases e<;>exact h) (fun _=>by kernel_rfl)
theorem awithin_any (k:TrC) (lv fr:Int) (b:Nat) (fE:Option Addr) (l cE:Nat) (n:Int) (Es:List Ety) (sD sR:Value) (w:World) (hE:RowsAt KE w fE Es) (hn:l=Es.length) (hl:l≤1000000) (hb:Fits [] w [⟨b,0,262,trpC k lv fr (.slice fE l cE) (sD) sR,.row⟩] w) :
  Calls Tryz.prog 253 #[.pointer (some ⟨b,0,none⟩),.int .i64 n] w fun r w'=>r=.returned (.bool (heldB n Es))∧Below w.heap.size w w':=by
 exact calls_ex mixedT [⟨b,0,262,trpC k lv fr (.slice fE l cE) sD sR,.row⟩] (.r 1 [a1 4 0 0] (.cc (nthLoop Tryz.f253 0) (fun _=>[(1,.int .i64 n),(11,.slice fE l cE),(12,.int .i64 l),(13,.int .i64 0)]) [] (some 0) (fun _=>[]) [] 1 [fun _=>.one (fun _=>heldB n Es=true)] (.fin [] (fun _=>.bool true) [(1,(fun E=>⟨0,0,0,[],.fact ((E.f 1).map (·.block)) ((fun _=>heldB n Es=true))⟩))]))) Tryz.func253 rfl hb (⟨fun E a W hT hF=>wp_mono (awithin_loop fE l cE n Es (hE.below hF.keep.below) hn hl (fun _ hk=>⟨rfl,(hF.keep.trans hk).below⟩) hT (Fits.nil W)) fun e a w h=>h.imp (fun h=>⟨h.1,CPost.told h.2.2.2 hF.keep h.2.2.1.keep h.2.1⟩) id,fun _ _ hk hp=>⟨by rw [(hp.1 _ (List.mem_singleton.2 rfl)).2.2.1],hk.below⟩⟩) rfl (fun _=>by kernel_rfl)
theorem aframes_any (k:TrC) (lv fr:Int) (b:Nat) (sE sD sR:Value) (w:World) (n e:Int) (hne:Value.tuple #[.int .i64 n,.int .i64 e]=if okM k.l=true then .tuple #[.int .i64 ((k.l:Int) / 8),.int .i64 0] else .tuple #[.int .i64 0,.int .i64 1]) (hb:Fits [] w [⟨b,0,262,trpC k lv fr sE sD sR,.row⟩] w) :
  Calls Tryz.prog 254 #[.pointer (some ⟨b,0,none⟩)] w fun r w'=>r=.returned (.int .i64 n)∧Below w.heap.size w w':=by
 exact calls_ex mixedT [⟨b,0,262,trpC k lv fr sE sD sR,.row⟩] (.r 1 [a1 3 0 10,(4,.call 57 (fun _=>[.agg #[.slice k.f k.l k.c]]) (fun _=>.tuple #[.int .i64 n,.int .i64 e]))] (.fin [] (fun _=>.int .i64 n) [])) Tryz.func254 rfl hb (⟨fun _ W _=>(frames_any k.f k.l k.c W).mono fun _ _ hJ=>⟨hJ.1.trans (by rw [← hne]),hJ.2⟩,fun _ _ h _=>⟨rfl,h.below⟩⟩) rfl (fun _=>by kernel_rfl)
theorem acarry_any (k:TrC) (lv fr:Int) (b:Nat) (fE fD:Option Addr) (cE cD:Nat) (Es:List Ety) (Ds:List Inv) (sR:Value) (w:World) (hE:RowsAt KE w fE Es) (hD:RowsAt KI w fD Ds) (hls:Es.length≤90000) (hms:Ds.length≤90000) (hc:Es.length≤cE) (hc2:cE≤maxLen) (hb:Fits [] w [⟨b,0,262,trpC k lv fr (.slice fE Es.length cE) (.slice fD Ds.length cD) sR,.row⟩] w) :
  Calls Tryz.prog 230 #[.pointer (some ⟨b,0,none⟩)] w fun e w'=>e=.returned (.bool (mayC14 k Es Ds))∧Below w.heap.size w w':=by
 obtain ⟨n,e,hne⟩:∃ n e:Int,Value.tuple #[.int .i64 n,.int .i64 e]=if okM k.l=true then .tuple #[.int .i64 ((k.l:Int) / 8),.int .i64 0] else .tuple #[.int .i64 0,.int .i64 1]:=by
  cases okM k.l
  ·exact ⟨_,_,rfl⟩
  ·exact ⟨_,_,rfl⟩
 obtain ⟨q0,hq0⟩:∃ b,((if okM k.l=true then (0:Int) else 1)==0)=b:=⟨_,rfl⟩
 obtain ⟨q1,hq1⟩:∃ b,(mayT Es Ds&&(numB k.tg 15&&numB k.tg1 15))=b:=⟨_,rfl⟩
 obtain ⟨q2,hq2⟩:∃ b,(heldB n Es)=b:=⟨_,rfl⟩
 obtain ⟨q3,hq3⟩:∃ b,(((q0&&q1)&&q2)&&k.on2)=b:=⟨_,rfl⟩
 obtain ⟨q4,hq4⟩:∃ b,(numB k.tf 4095)=b:=⟨_,rfl⟩
 exact calls_ex mixedT [⟨b,0,262,trpC k lv fr (.slice fE Es.length cE) (.slice fD Ds.length cD) sR,.row⟩] (.r 1 [a1 3 0 10,(4,.call 80 (fun _=>[.agg #[.slice k.f k.l k.c]]) (fun _=>.int .i64 (if okM k.l=true then (0:Int) else 1))),(5,.rw (fun _=>.bool ((if okM k.l=true then (0:Int) else 1)==0)) (fun _=>.bool q0)),(10,.callg 252 (fun _=>[.pointer (some ⟨b,0,none⟩)]) (fun _=>.bool q1) [(0,(fun _=>⟨b,0,262,trpC k lv fr (.slice fE Es.length cE) (.slice fD Ds.length cD) sR,.row⟩))] [] 1 []),(17,.callg 254 (fun _=>[.pointer (some ⟨b,0,none⟩)]) (fun _=>.int .i64 n) [(0,(fun _=>⟨b,0,262,trpC k lv fr (.slice fE Es.length cE) (.slice fD Ds.length cD) sR,.row⟩))] [] 1 []),(18,.callg 253 (fun _=>[.pointer (some ⟨b,0,none⟩),.int .i64 n]) (fun _=>.bool q2) [(0,(fun _=>⟨b,0,262,trpC k lv fr (.slice fE Es.length cE) (.slice fD Ds.length cD) sR,.row⟩))] [] 1 []),a1 25 0 11,(26,.rw (fun _=>.bool (((q0&&q1)&&q2)&&k.on2)) (fun _=>.bool q3)),a1 32 0 12,(33,.call 231 (fun _=>[.int .i64 k.tf,.int .i64 4095]) (fun _=>.bool q4))] (.fin [] (fun _=>.bool (q3&&q4)) [])) Tryz.func230 rfl hb (⟨fun _ W _=>mcheck_any k.f k.l k.c W,fun _=>congrArg Value.bool hq0,fun E W hk hp=>(acmay_any k lv fr b fE fD cE cD Es Ds sR W (hE.below hk.below) (hD.below hk.below) hls hms hc hc2 (hp.2 rfl).ro).mono fun _ _ hJ=>GPost.quiet hk ⟨hJ.1.trans (by rw [hq1]),hJ.2⟩,fun E W hk hp=>(aframes_any k lv fr b _ _ sR W n e hne (hp.2 rfl).ro).mono fun _ _ hJ=>GPost.quiet hk hJ,fun E W hk hp=>(awithin_any k lv fr b fE _ cE n Es _ sR W (hE.below hk.below) rfl (by omega) (hp.2 rfl).ro).mono fun _ _ hJ=>GPost.quiet hk ⟨hJ.1.trans (by rw [hq2]),hJ.2⟩,fun _=>congrArg Value.bool hq3,fun _ W _=>(aup_any _ _ W).mono fun _ _ hJ=>⟨hJ.1.trans (by rw [hq4]),hJ.2⟩,fun _ _ h _=>⟨ret_bool (by subst hq0 hq1 hq2 hq3 hq4;unfold mayC14;cases hM:okM k.l<;>simp only [hM] at hne<;>(first | rfl | (obtain rfl:n=(k.l:Int) / 8:=(by injection hne with h1;simp at h1;exact h1.1));cases mayT Es Ds<;>cases numB k.tg 15<;>cases numB k.tg1 15<;>cases heldB ((k.l:Int) / 8) Es<;>cases k.on2<;>rfl)),h.below⟩⟩) rfl (fun _=>by cases q0;(cases q3<;>kernel_rfl);(cases q1;(cases q3<;>kernel_rfl);(cases q2;(cases q3<;>kernel_rfl);(cases q3<;>kernel_rfl))))
theorem abegin_any (k:TrC) (lv fr:Int) (b:Nat) (fE fD:Option Addr) (cE cD:Nat) (Es:List Ety) (Ds:List Inv) (sR:Value) (w:World) (hE:RowsAt KE w fE Es) (hD:RowsAt KI w fD Ds) (hls:Es.length≤90000) (hms:Ds.length≤90000) (hc:Es.length≤cE) (hc2:cE≤maxLen) (hb:Fits [] w [⟨b,0,262,trpC k lv fr (.slice fE Es.length cE) (.slice fD Ds.length cD) sR,.row⟩] w) :
  Calls Tryz.prog 189 #[.pointer (some ⟨b,0,none⟩)] w fun e w'=>e=.returned (.bool (mayB14 k Es Ds))∧Below w.heap.size w w':=by
 obtain ⟨z,hz⟩:∃ z,(numB k.acc 2&&mayA atr0 k.acc)=z:=⟨_,rfl⟩
 obtain ⟨q0,hq0⟩:∃ b,((if numB k.acc 2=true then (0:Int) else 1)==0)=b:=⟨_,rfl⟩
 obtain ⟨q1,hq1⟩:∃ b,(mayC14 k Es Ds)=b:=⟨_,rfl⟩
 obtain ⟨q2,hq2⟩:∃ b,(numB k.of1 4095)=b:=⟨_,rfl⟩
 obtain ⟨q3,hq3⟩:∃ b,(numB k.pg 4095)=b:=⟨_,rfl⟩
 exact calls_ex mixedT [⟨b,0,262,trpC k lv fr (.slice fE Es.length cE) (.slice fD Ds.length cD) sR,.row⟩] (.r 1 [a1 4 0 19,(5,.call 229 (fun _=>[.agg #[.bool false,.bool false,.bool false,.bool false,.bool false,.int .i64 0],.int .i64 k.acc]) (fun _=>.tuple #[.bool z,.int .i64 (if numB k.acc 2=true then (0:Int) else 1)]))] (.r 2 [(1,.rw (fun _=>.bool ((if numB k.acc 2=true then (0:Int) else 1)==0)) (fun _=>.bool q0)),(6,.callg 230 (fun _=>[.pointer (some ⟨b,0,none⟩)]) (fun _=>.bool q1) [(0,(fun _=>⟨b,0,262,trpC k lv fr (.slice fE Es.length cE) (.slice fD Ds.length cD) sR,.row⟩))] [] 1 []),a1 13 0 16,(14,.call 231 (fun _=>[.int .i64 k.of1,.int .i64 4095]) (fun _=>.bool q2)),a1 20 0 18,(21,.call 231 (fun _=>[.int .i64 k.pg,.int .i64 4095]) (fun _=>.bool q3))] (.fin [] (fun _=>.bool (((q0&&q1)&&q2)&&q3)) []))) Tryz.func189 rfl hb (⟨fun _ W _=>(mayC atr0 k.acc W).mono fun _ _ hJ=>⟨hJ.1.trans (by rw [hz]),hJ.2⟩,fun _=>congrArg Value.bool hq0,fun E W hk hp=>(acarry_any k lv fr b fE fD cE cD Es Ds sR W (hE.below hk.below) (hD.below hk.below) hls hms hc hc2 (hp.2 rfl).ro).mono fun _ _ hJ=>GPost.quiet hk ⟨hJ.1.trans (by rw [hq1]),hJ.2⟩,fun _ W _=>(aup_any _ _ W).mono fun _ _ hJ=>⟨hJ.1.trans (by rw [hq2]),hJ.2⟩,fun _ W _=>(aup_any _ _ W).mono fun _ _ hJ=>⟨hJ.1.trans (by rw [hq3]),hJ.2⟩,fun _ _ h _=>⟨ret_bool (by subst hq0 hq1 hq2 hq3;unfold mayB14;cases numB k.acc 2<;>cases mayC14 k Es Ds<;>cases numB k.of1 4095<;>cases numB k.pg 4095<;>rfl),h.below⟩⟩) rfl (fun _=>by cases q0;(kernel_rfl);(cases q1;(kernel_rfl);(cases q2<;>kernel_rfl)))
end Go.Proofs.YtlgpdbgingjpbaaGreat
