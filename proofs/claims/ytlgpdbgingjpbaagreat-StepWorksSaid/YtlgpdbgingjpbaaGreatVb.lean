/- The landed package tlb: whether a store may be: contracts. -/
import Derived.Test.YtlgpdbgingjpbaaGreatVa
import Derived.Test.YtlgpdbgingjpbaaGreatBl
import Derived.Test.YtlgpdbgingjpbaaGreatEj
set_option linter.all false
namespace Go.Proofs.YtlgpdbgingjpbaaGreat
open Go.ChangeShapes Go.WideShapes Go.ChangeAt Go.RowKit Go.Deep
theorem eqE_comm (a b:Ety):eqE a b=eqE b a:=by unfold eqE;rw [Bool.eq_iff_iff];simp only [decide_eq_true_eq];exact eq_comm
theorem placeE_tell (p:Ety→Bool):∀ (L:List Ety) (k:Int),(placeE p L k=-1∧∀ (i:Nat) (y:Ety),L[i]?=some y→p y=false)∨(∃ (i:Nat) (x:Ety),L[i]?=some x∧p x=true∧placeE p L k=k+(i:Nat)∧∀ (i':Nat) (y:Ety),i' < i→L[i']?=some y→p y=false)
 | [],k=>.inl ⟨rfl,fun i y h=>by simp at h⟩
 | x :: L,k=>by
  unfold placeE
  cases hp:p x
  ·rw [if_neg (by decide)]
   rcases placeE_tell p L (k+1) with ⟨h1,h2⟩ | ⟨i,y,h1,h2,h3,h4⟩
   ·refine .inl ⟨h1,fun i y h=>?_⟩
    cases i with
    | zero=>simp only [List.getElem?_cons_zero,Option.some.injEq] at h;rw [← h];exact hp
    | succ i=>exact h2 i y (by simpa using h)
   ·refine .inr ⟨i+1,y,by simpa using h1,h2,by rw [h3];push_cast;omega,fun i' z hi h=>?_⟩
    cases i' with
    | zero=>simp only [List.getElem?_cons_zero,Option.some.injEq] at h;rw [← h];exact hp
    | succ i'=>exact h4 i' z (by omega) (by simpa using h)
  ·rw [if_pos rfl]
   exact .inr ⟨0,x,rfl,hp,by simp,fun i' y h=>by omega⟩
theorem inE_take {E:List Ety} {k:Nat} {x:Ety} (h:E[k]?=some x):decide (inE E x=(k:Int))=!decide (0≤inE (E.take k) x):=by
 unfold inE
 have ht:∀ (i:Nat) (y:Ety),i < k→E[i]?=some y→(E.take k)[i]?=some y:=fun i y hi hy=>by rw [List.getElem?_take,if_pos hi];exact hy
 rcases placeE_tell (fun y=>eqE y x) (E.take k) 0 with ⟨h1,h2⟩ | ⟨i,y,h1,h2,h3,_⟩
 ·rw [h1]
  rcases placeE_tell (fun y=>eqE y x) E 0 with ⟨g1,g2⟩ | ⟨i,z,g1,g2,g3,g4⟩
  ·have:=g2 k x h
   rw [eqE_self] at this
   cases this
  ·have:i=k:=by
    rcases Nat.lt_trichotomy i k with hl | he | hg
    ·have:=h2 i z (ht i z hl g1)
     rw [g2] at this
     cases this
    ·exact he
    ·have:=g4 k x hg h
     rw [eqE_self] at this
     cases this
   subst this
   rw [g3]
   simp
 ·rw [h3]
  rw [List.getElem?_take] at h1
  have hik:i < k:=by
   rcases Nat.lt_or_ge i k with hl | hg
   ·exact hl
   ·rw [if_neg (by omega)] at h1;cases h1
  rw [if_pos hik] at h1
  have hf:¬ (placeE (fun y=>eqE y x) E 0=(k:Int)):=by
   rcases placeE_tell (fun y=>eqE y x) E 0 with ⟨g1,g2⟩ | ⟨j,z,g1,g2,g3,g4⟩
   ·rw [g1];omega
   ·rw [g3]
    intro he
    have hj:j=k:=by omega
    subst hj
    have:=g4 i y hik h1
    rw [h2] at this
    cases this
  simp [hf]
theorem drop_cons {α:Type} {L:List α} {j:Nat} {x:α} (h:L[j]?=some x):L.drop j=x :: L.drop (j+1):=by
 obtain ⟨hl,rfl⟩:=List.getElem?_eq_some_iff.1 h
 exact List.drop_eq_getElem_cons hl
set_option maxRecDepth 100000 in
theorem tdues_loop (g:Option Addr) (m d:Nat) (D:List Inv) {w0 W:World} {a:Act} {R:Ending→World→Prop} (hD:RowsAt KI w0 g D) (ho:m=D.length) (hm:m≤1000000) (hR:∀ w',Keep [] w0 w'→R (.returned (.bool (allV D))) w')
  (hT:Has Tryz.f143.ntmps [(7,.slice g m d),(8,.int .i64 m),(9,.int .i64 0)] a) (hF:Fits [] w0 [] W) :
  (nthLoop Tryz.f143 0).wp Tryz.prog (fun ze a w=>(ze=.exit 0∧Has Tryz.f143.ntmps [] a∧Fits [] w0 [] w∧(allV D=true))∨(ze=.ret∧bodyPost Tryz.prog Tryz.f143 R .ret a w)) a W:=by
 rw [show nthLoop Tryz.f143 0=.loop (bodyOf (nthLoop Tryz.f143 0)) from by kernel_rfl]
 refine wp_loop_ex (fun (j:Nat) a w=>j≤m∧Has Tryz.f143.ntmps [(7,.slice g m d),(8,.int .i64 m),(9,.int .i64 j)] a∧Fits [] w0 [] w∧(allV (D.drop j)=allV D)) (fun j=>m - j) 0 ⟨Nat.zero_le _,hT,hF,rfl⟩ fun j a w hI=>?_
 clear hT hF
 obtain ⟨hj,hT,hF,hV⟩:=hI
 by_cases hlt:j < m
 ·have hd:decide ((j:Int) < m)=true:=decide_eq_true (by omega)
  have hjw:IntKind.i64.wrap ((j:Int)+1)=((j+1:Nat):Int):=(IntWalk.i64_in _ (by omega)).trans (by omega)
  obtain ⟨qj,hqj⟩:∃ q,D[j]?=some q:=⟨_,List.getElem?_eq_getElem (by omega)⟩
  obtain ⟨b1,o1,rfl,hF⟩:=hF.rows hD hqj (by exact Nat.le_refl _) (fun _ _=>nofun)
  rw [drop_cons hqj,allV] at hV
  obtain ⟨q0,hq0⟩:∃ b,(mayIn qj)=b:=⟨_,rfl⟩
  exact wp_ex mixedT Tryz.f143 [(7,.slice (some ⟨b1,o1,none⟩) m d),(8,.int .i64 m),(9,.int .i64 j)] [⟨b1,o1+j * 4,132,(invC qj).toList,.row⟩] (.r 2 [(0,.rw (fun _=>.bool (decide ((j:Int) < m))) (fun _=>.bool true))] (.r 3 [(0,.ix 75 (fun _=>.slice (some ⟨b1,o1,none⟩) m d) (fun _=>.int .i64 j) (fun _=>.pointer (some ⟨b1,o1+j * 4,none⟩))),aN 1 0 0 4,aN 3 1 0 4] (.r 4 [aN 0 1 0 4,(2,.call 187 (fun _=>[invV qj]) (fun _=>.bool q0))] (.split (!q0) (.fin [] (fun _=>.bool false) []) (.r 6 [(0,.rw (fun _=>.int .i64 (IntKind.i64.wrap (j+1))) (fun _=>.int .i64 ((j+1:Nat):Int)))] (.out none (fun _=>[(7,.slice (some ⟨b1,o1,none⟩) m d),(8,.int .i64 m),(9,.int .i64 ((j+1:Nat):Int))]) [])))))) hT hF (⟨fun _=>congrArg Value.bool hd,fun _ _=>ix_row 75 132 b1 o1 _ _ j 4 Tryz.underlying75 (by kernel_rfl) hlt,fun _ W _=>(tdue_any qj W).mono fun _ _ hJ=>⟨hJ.1.trans (by rw [hq0]),hJ.2⟩,fun hS2=>fun _ _ hk _=>by rw [show false=allV D from by rw [← hV];subst hq0;(try simp only [Bool.not_eq_true',Bool.not_eq_false',Bool.and_eq_true,Bool.or_eq_true,Bool.or_eq_false_iff,decide_eq_true_eq,decide_eq_false_iff_not,beq_iff_eq] at hS2);first | (simp [hS2];done) | (rcases hS2 with hS2 | hS2<;>simp [hS2])];exact hR _ hk,fun hS2=>⟨fun _=>by rw [hjw],fun _ _ _ hT1 hF1=>⟨j+1,⟨by omega,hT1,hF1,by rw [← hV];subst hq0;(try simp only [Bool.not_eq_true',Bool.not_eq_false',Bool.and_eq_true,Bool.or_eq_true,Bool.or_eq_false_iff,decide_eq_true_eq,decide_eq_false_iff_not,beq_iff_eq] at hS2);first | (simp [hS2];done) | (rcases hS2 with hS2 | hS2<;>simp [hS2])⟩,by omega⟩⟩⟩) (J:=fun ze a w=>match ze with | .normal=>∃ j',(j'≤m∧Has Tryz.f143.ntmps [(7,.slice (some ⟨b1,o1,none⟩) m d),(8,.int .i64 m),(9,.int .i64 j')] a∧Fits [] w0 [] w∧(allV (D.drop j')=allV D))∧m - j' < m - j | ze=>(ze=.exit 0∧Has Tryz.f143.ntmps [] a∧Fits [] w0 [] w∧(allV D=true))∨(ze=.ret∧bodyPost Tryz.prog Tryz.f143 R .ret a w)) (fun _ _ h=>Or.inr ⟨rfl,h⟩) (fun e _ _ h=>by cases e<;>exact h) (fun _=>by kernel_rfl)
 ·have hd:decide ((j:Int) < m)=false:=decide_eq_false (by omega)
  exact wp_ex mixedT Tryz.f143 [(7,.slice g m d),(8,.int .i64 m),(9,.int .i64 j)] [] (.r 2 [(0,.rw (fun _=>.bool (decide ((j:Int) < m))) (fun _=>.bool false))] (.out (some 0) (fun _=>[]) [])) hT hF (⟨fun _=>congrArg Value.bool hd,fun _ _ _ hT1 hF1=>Or.inl (by have hjl:j=m:=(by omega);subst hjl;exact ⟨rfl,hT1,hF1,by rw [← hV,ho,List.drop_length];rfl⟩)⟩) (J:=fun ze a w=>match ze with | .normal=>∃ j',(j'≤m∧Has Tryz.f143.ntmps [(7,.slice g m d),(8,.int .i64 m),(9,.int .i64 j')] a∧Fits [] w0 [] w∧(allV (D.drop j')=allV D))∧m - j' < m - j | ze=>(ze=.exit 0∧Has Tryz.f143.ntmps [] a∧Fits [] w0 [] w∧(allV D=true))∨(ze=.ret∧bodyPost Tryz.prog Tryz.f143 R .ret a w)) (fun _ _ h=>Or.inr ⟨rfl,h⟩) (fun e _ _ h=>by cases e<;>exact h) (fun _=>by kernel_rfl)
theorem tdues_any (f g:Option Addr) (l c m d:Nat) (D:List Inv) (w:World) (hD:RowsAt KI w g D) (ho:m=D.length) (hm:m≤1000000) :
  Calls Tryz.prog 143 #[.agg #[.slice f l c,.slice g m d]] w fun r w'=>r=.returned (.bool (allV D))∧Below w.heap.size w w':=by
 exact calls_ex mixedT [] (.r 1 [a1 2 0 1] (.cc (nthLoop Tryz.f143 0) (fun _=>[(7,.slice g m d),(8,.int .i64 m),(9,.int .i64 0)]) [] (some 0) (fun _=>[]) [] 1 [fun _=>.one (fun _=>allV D=true)] (.fin [] (fun _=>.bool true) [(1,(fun E=>⟨0,0,0,[],.fact ((E.f 1).map (·.block)) ((fun _=>allV D=true))⟩))]))) Tryz.func143 rfl (Fits.nil w) (⟨fun E a W hT hF=>wp_mono (tdues_loop g m d D (hD.below hF.keep.below) ho hm (fun _ hk=>⟨rfl,(hF.keep.trans hk).below⟩) hT (Fits.nil W)) fun e a w h=>h.imp (fun h=>⟨h.1,CPost.told h.2.2.2 hF.keep h.2.2.1.keep h.2.1⟩) id,fun _ _ hk hp=>⟨by rw [(hp.1 _ (List.mem_singleton.2 rfl)).2.2.1],hk.below⟩⟩) rfl (fun _=>by kernel_rfl)
set_option maxRecDepth 100000 in
theorem tix_loop (f:Option Addr) (l c b0:Nat) (Es:List Ety) (e:Ety) {w0 W:World} {a:Act} {R:Ending→World→Prop} (hL:RowsAt KE w0 f Es) (hn:l=Es.length) (hl:l≤1000000) (hR:∀ w',Keep [] w0 w'→R (.returned (.int .i64 (inE Es e))) w')
  (hT:Has Tryz.f223.ntmps [(0,.slice f l c),(3,.pointer (some ⟨b0,0,none⟩)),(7,.int .i64 l),(8,.int .i64 0)] a) (hF:Fits [] w0 [⟨b0,0,121,(entC e).toList,.row⟩] W) :
  (nthLoop Tryz.f223 0).wp Tryz.prog (fun ze a w=>(ze=.exit 0∧Has Tryz.f223.ntmps [] a∧Fits [] w0 [⟨b0,0,121,(entC e).toList,.row⟩] w∧(inE Es e=-1))∨(ze=.ret∧bodyPost Tryz.prog Tryz.f223 R .ret a w)) a W:=by
 rw [show nthLoop Tryz.f223 0=.loop (bodyOf (nthLoop Tryz.f223 0)) from by kernel_rfl]
 refine wp_loop_ex (fun (j:Nat) a w=>j≤l∧Has Tryz.f223.ntmps [(0,.slice f l c),(3,.pointer (some ⟨b0,0,none⟩)),(7,.int .i64 l),(8,.int .i64 j)] a∧Fits [] w0 [⟨b0,0,121,(entC e).toList,.row⟩] w∧(placeE (fun x=>eqE x e) (Es.drop j) j=inE Es e)) (fun j=>l - j) 0 ⟨Nat.zero_le _,hT,hF,rfl⟩ fun j a w hI=>?_
 clear hT hF
 obtain ⟨hj,hT,hF,hV⟩:=hI
 by_cases hlt:j < l
 ·have hd:decide ((j:Int) < l)=true:=decide_eq_true (by omega)
  have hjw:IntKind.i64.wrap ((j:Int)+1)=((j+1:Nat):Int):=(IntWalk.i64_in _ (by omega)).trans (by omega)
  obtain ⟨qj,hqj⟩:∃ q,Es[j]?=some q:=⟨_,List.getElem?_eq_getElem (by omega)⟩
  obtain ⟨b1,o1,rfl,hF⟩:=hF.rows hL hqj (by exact Nat.le_refl _) (fun _ _=>nofun)
  rw [drop_cons hqj,placeE,eqE_comm qj e] at hV
  obtain ⟨q0,hq0⟩:∃ b,(eqE e qj)=b:=⟨_,rfl⟩
  exact wp_ex mixedT Tryz.f223 [(0,.slice (some ⟨b1,o1,none⟩) l c),(3,.pointer (some ⟨b0,0,none⟩)),(7,.int .i64 l),(8,.int .i64 j)] [⟨b0,0,121,(entC e).toList,.row⟩,⟨b1,o1+j * 14,121,(entC qj).toList,.row⟩] (.r 2 [(0,.rw (fun _=>.bool (decide ((j:Int) < l))) (fun _=>.bool true))] (.r 4 [aN 0 0 0 14,(3,.ix 74 (fun _=>.slice (some ⟨b1,o1,none⟩) l c) (fun _=>.int .i64 j) (fun _=>.pointer (some ⟨b1,o1+j * 14,none⟩))),aN 4 1 0 14,(5,.opc (.binOp .eql 121 (.tmp 11) (.tmp 15) 121) (fun _=>[entV e,entV qj]) (fun _=>.bool q0) [] [] 0 [])] (.split (q0) (.fin [] (fun _=>.int .i64 j) []) (.r 6 [(0,.rw (fun _=>.int .i64 (IntKind.i64.wrap (j+1))) (fun _=>.int .i64 ((j+1:Nat):Int)))] (.out none (fun _=>[(0,.slice (some ⟨b1,o1,none⟩) l c),(3,.pointer (some ⟨b0,0,none⟩)),(7,.int .i64 l),(8,.int .i64 ((j+1:Nat):Int))]) [(0,(fun _=>⟨b0,0,121,(entC e).toList,.row⟩))]))))) hT hF (⟨fun _=>congrArg Value.bool hd,fun _ _=>ix_row 74 121 b1 o1 _ _ j 14 Tryz.underlying74 (by kernel_rfl) hlt,fun E W ρ o ho hx hk hp=>by rw [← hq0];exact (fun _ W _ _ ho hx hk _=>opc_two ho hx hk (by kernel_rfl) (eql_ent _ _ _ _ _ _ _ _ _ _ _ _ _ _ _ _ _ _ _ _ _ _ _ _ _ _ _ _ W)) E W ρ o ho hx hk hp,fun hS2=>fun _ _ hk _=>by rw [show (j:Int)=inE Es e from by rw [← hV];subst hq0;(try simp only [Bool.not_eq_true',Bool.not_eq_false',Bool.and_eq_true,Bool.or_eq_true,Bool.or_eq_false_iff,decide_eq_true_eq,decide_eq_false_iff_not,beq_iff_eq] at hS2);first | (simp [hS2];done) | (rcases hS2 with hS2 | hS2<;>simp [hS2])];exact hR _ hk,fun hS2=>⟨fun _=>by rw [hjw],fun _ _ _ hT1 hF1=>⟨j+1,⟨by omega,hT1,hF1,(show placeE (fun x=>eqE x e) (Es.drop (j+1)) ((j:Int)+1)=_ from by rw [← hV];subst hq0;(try simp only [Bool.not_eq_true',Bool.not_eq_false',Bool.and_eq_true,Bool.or_eq_true,Bool.or_eq_false_iff,decide_eq_true_eq,decide_eq_false_iff_not,beq_iff_eq] at hS2);first | (simp [hS2];done) | (rcases hS2 with hS2 | hS2<;>simp [hS2]))⟩,by omega⟩⟩⟩) (J:=fun ze a w=>match ze with | .normal=>∃ j',(j'≤l∧Has Tryz.f223.ntmps [(0,.slice (some ⟨b1,o1,none⟩) l c),(3,.pointer (some ⟨b0,0,none⟩)),(7,.int .i64 l),(8,.int .i64 j')] a∧Fits [] w0 [⟨b0,0,121,(entC e).toList,.row⟩] w∧(placeE (fun x=>eqE x e) (Es.drop j') j'=inE Es e))∧l - j' < l - j | ze=>(ze=.exit 0∧Has Tryz.f223.ntmps [] a∧Fits [] w0 [⟨b0,0,121,(entC e).toList,.row⟩] w∧(inE Es e=-1))∨(ze=.ret∧bodyPost Tryz.prog Tryz.f223 R .ret a w)) (fun _ _ h=>Or.inr ⟨rfl,h⟩) (fun e _ _ h=>by cases e<;>exact h) (fun _=>by kernel_rfl)
 ·have hd:decide ((j:Int) < l)=false:=decide_eq_false (by omega)
  exact wp_ex mixedT Tryz.f223 [(0,.slice f l c),(3,.pointer (some ⟨b0,0,none⟩)),(7,.int .i64 l),(8,.int .i64 j)] [⟨b0,0,121,(entC e).toList,.row⟩] (.r 2 [(0,.rw (fun _=>.bool (decide ((j:Int) < l))) (fun _=>.bool false))] (.out (some 0) (fun _=>[]) [(0,(fun _=>⟨b0,0,121,(entC e).toList,.row⟩))])) hT hF (⟨fun _=>congrArg Value.bool hd,fun _ _ _ hT1 hF1=>Or.inl (by have hjl:j=l:=(by omega);subst hjl;exact ⟨rfl,hT1,hF1,by rw [← hV,hn,List.drop_length];rfl⟩)⟩) (J:=fun ze a w=>match ze with | .normal=>∃ j',(j'≤l∧Has Tryz.f223.ntmps [(0,.slice f l c),(3,.pointer (some ⟨b0,0,none⟩)),(7,.int .i64 l),(8,.int .i64 j')] a∧Fits [] w0 [⟨b0,0,121,(entC e).toList,.row⟩] w∧(placeE (fun x=>eqE x e) (Es.drop j') j'=inE Es e))∧l - j' < l - j | ze=>(ze=.exit 0∧Has Tryz.f223.ntmps [] a∧Fits [] w0 [⟨b0,0,121,(entC e).toList,.row⟩] w∧(inE Es e=-1))∨(ze=.ret∧bodyPost Tryz.prog Tryz.f223 R .ret a w)) (fun _ _ h=>Or.inr ⟨rfl,h⟩) (fun e _ _ h=>by cases e<;>exact h) (fun _=>by kernel_rfl)
theorem tix_any (f:Option Addr) (l c:Nat) (Es:List Ety) (e:Ety) (w:World) (hL:RowsAt KE w f Es) (hn:l=Es.length) (hl:l≤1000000) :
  Calls Tryz.prog 223 #[.slice f l c,entV e] w fun r w'=>r=.returned (.int .i64 (inE Es e))∧Below w.heap.size w w':=by
 exact calls_ex mixedT [] (.cc (nthLoop Tryz.f223 0) (fun E=>[(0,.slice f l c),(3,.pointer (some ⟨E.b 0,0,none⟩)),(7,.int .i64 l),(8,.int .i64 0)]) [(0,(fun E=>⟨E.b 0,0,121,(entC e).toList,.own⟩))] (some 0) (fun _=>[]) [] 1 [fun _=>.one (fun _=>inE Es e=-1)] (.fin [] (fun _=>.int .i64 (-1)) [(1,(fun E=>⟨0,0,0,[],.fact ((E.f 1).map (·.block)) ((fun _=>inE Es e=-1))⟩))])) Tryz.func223 rfl (Fits.nil w) (⟨fun E a W hT hF=>wp_mono (tix_loop f l c _ Es e (hL.below hF.keep.below) hn hl (fun _ hk=>⟨rfl,(hF.keep.trans hk).below⟩) hT hF.ro) fun e a w h=>h.imp (fun h=>⟨h.1,CPost.told h.2.2.2 hF.keep h.2.2.1.keep h.2.1⟩) id,fun _ _ hk hp=>⟨by rw [(hp.1 _ (List.mem_singleton.2 rfl)).2.2.1],hk.below⟩⟩) rfl (fun _=>by kernel_rfl)
theorem tcont_any (f:Option Addr) (l c:Nat) (Es:List Ety) (e:Ety) (w:World) (hL:RowsAt KE w f Es) (hn:l=Es.length) (hl:l≤1000000) :
  Calls Tryz.prog 186 #[.slice f l c,entV e] w fun r w'=>r=.returned (.bool (decide (0≤inE Es e)))∧Below w.heap.size w w':=by
 exact calls_ex mixedT [] (.r 1 [aN 1 0 0 14,(2,.call 223 (fun _=>[.slice f l c,entV e]) (fun _=>.int .i64 (inE Es e))),(3,.rw (fun _=>.bool (decide (((inE Es e):Int)≥0))) (fun _=>.bool (decide (0≤inE Es e))))] (.fin [] (fun _=>.bool (decide (0≤inE Es e))) [])) Tryz.func186 rfl (Fits.nil w) (⟨fun _ W hk=>tix_any f l c Es e W (hL.below hk.below) hn hl,fun _=>rfl,fun _ _ h _=>⟨rfl,h.below⟩⟩) rfl (fun _=>by kernel_rfl)
set_option maxRecDepth 100000 in
theorem tents_loop (f g:Option Addr) (l c m d b0:Nat) (Es:List Ety) {w0 W:World} {a:Act} {R:Ending→World→Prop} (hL:RowsAt KE w0 f Es) (hn:l=Es.length) (hl:l≤1000000) (hc:l≤c) (hR:∀ w',Keep [] w0 w'→R (.returned (.bool (allF Es Es 0))) w')
  (hT:Has Tryz.f142.ntmps [(1,.pointer (some ⟨b0,0,none⟩)),(7,.slice f l c),(8,.int .i64 l),(9,.int .i64 0)] a) (hF:Fits [] w0 [⟨b0,0,165,[.slice f l c,.slice g m d],.row⟩] W) :
  (nthLoop Tryz.f142 0).wp Tryz.prog (fun ze a w=>(ze=.exit 0∧Has Tryz.f142.ntmps [] a∧Fits [] w0 [⟨b0,0,165,[.slice f l c,.slice g m d],.row⟩] w∧(allF Es Es 0=true))∨(ze=.ret∧bodyPost Tryz.prog Tryz.f142 R .ret a w)) a W:=by
 rw [show nthLoop Tryz.f142 0=.loop (bodyOf (nthLoop Tryz.f142 0)) from by kernel_rfl]
 refine wp_loop_ex (fun (j:Nat) a w=>j≤l∧Has Tryz.f142.ntmps [(1,.pointer (some ⟨b0,0,none⟩)),(7,.slice f l c),(8,.int .i64 l),(9,.int .i64 j)] a∧Fits [] w0 [⟨b0,0,165,[.slice f l c,.slice g m d],.row⟩] w∧(allF Es (Es.drop j) j=allF Es Es 0)) (fun j=>l - j) 0 ⟨Nat.zero_le _,hT,hF,rfl⟩ fun j a w hI=>?_
 clear hT hF
 obtain ⟨hj,hT,hF,hV⟩:=hI
 by_cases hlt:j < l
 ·have hd:decide ((j:Int) < l)=true:=decide_eq_true (by omega)
  have hjw:IntKind.i64.wrap ((j:Int)+1)=((j+1:Nat):Int):=(IntWalk.i64_in _ (by omega)).trans (by omega)
  obtain ⟨qj,hqj⟩:∃ q,Es[j]?=some q:=⟨_,List.getElem?_eq_getElem (by omega)⟩
  obtain ⟨b1,o1,rfl,hF⟩:=hF.rows hL hqj (by exact Nat.le_refl _) (fun _ _=>nofun)
  rw [drop_cons hqj,allF,inE_take hqj] at hV
  obtain ⟨q0,hq0⟩:∃ b,(mayEn qj)=b:=⟨_,rfl⟩
  obtain ⟨q1,hq1⟩:∃ b,(decide (0≤inE (Es.take j) qj))=b:=⟨_,rfl⟩
  exact wp_ex mixedT Tryz.f142 [(1,.pointer (some ⟨b0,0,none⟩)),(7,.slice (some ⟨b1,o1,none⟩) l c),(8,.int .i64 l),(9,.int .i64 j)] [⟨b0,0,165,[.slice (some ⟨b1,o1,none⟩) l c,.slice g m d],.row⟩,⟨b1,o1+j * 14,121,(entC qj).toList,.row⟩] (.r 2 [(0,.rw (fun _=>.bool (decide ((j:Int) < l))) (fun _=>.bool true))] (.r 3 [(1,.ix 74 (fun _=>.slice (some ⟨b1,o1,none⟩) l c) (fun _=>.int .i64 j) (fun _=>.pointer (some ⟨b1,o1+j * 14,none⟩))),aN 2 1 0 14,aN 5 2 0 14] (.r 4 [aN 0 2 0 14,(2,.call 185 (fun _=>[entV qj]) (fun _=>.bool q0)),a1 7 0 0,(9,.opc (.slice 74 (.tmp 21) none (some (.tmp 22)) none) (fun _=>[.slice (some ⟨b1,o1,none⟩) l c,.int .i64 j]) (fun _=>.slice (some ⟨b1,o1,none⟩) j c) [] [] 0 []),aN 10 2 0 14,(11,.call 186 (fun _=>[.slice (some ⟨b1,o1,none⟩) j c,entV qj]) (fun _=>.bool q1))] (.split ((!q0)||q1) (.fin [] (fun _=>.bool false) []) (.r 6 [(0,.rw (fun _=>.int .i64 (IntKind.i64.wrap (j+1))) (fun _=>.int .i64 ((j+1:Nat):Int)))] (.out none (fun _=>[(1,.pointer (some ⟨b0,0,none⟩)),(7,.slice (some ⟨b1,o1,none⟩) l c),(8,.int .i64 l),(9,.int .i64 ((j+1:Nat):Int))]) [(0,(fun _=>⟨b0,0,165,[.slice (some ⟨b1,o1,none⟩) l c,.slice g m d],.row⟩))])))))) hT hF (⟨fun _=>congrArg Value.bool hd,fun _ _=>ix_row 74 121 b1 o1 _ _ j 14 Tryz.underlying74 (by kernel_rfl) hlt,fun _ W _=>(trec_any qj W).mono fun _ _ hJ=>⟨hJ.1.trans (by rw [hq0]),hJ.2⟩,fun _ W _ _ ho hx hk _=>slice_opc (N:=14) ho hx hk Tryz.underlying74 (by kernel_rfl) (by omega),fun _ W hk=>(tcont_any (some ⟨b1,o1,none⟩) j c (Es.take j) qj W (RowsAt.take (K:=KE) (RowsAt.below (K:=KE) hL hk.below) j) (by rw [List.length_take];omega) (by omega)).mono fun _ _ hJ=>⟨hJ.1.trans (by rw [hq1]),hJ.2⟩,fun hS2=>fun _ _ hk _=>by rw [show false=allF Es Es 0 from by rw [← hV];subst hq0 hq1;(try simp only [Bool.not_eq_true',Bool.not_eq_false',Bool.and_eq_true,Bool.or_eq_true,Bool.or_eq_false_iff,decide_eq_true_eq,decide_eq_false_iff_not,beq_iff_eq] at hS2);first | (simp [hS2];done) | (rcases hS2 with hS2 | hS2<;>simp [hS2])];exact hR _ hk,fun hS2=>⟨fun _=>by rw [hjw],fun _ _ _ hT1 hF1=>⟨j+1,⟨by omega,hT1,hF1,(show allF Es (Es.drop (j+1)) ((j:Int)+1)=_ from by rw [← hV];subst hq0 hq1;(try simp only [Bool.not_eq_true',Bool.not_eq_false',Bool.and_eq_true,Bool.or_eq_true,Bool.or_eq_false_iff,decide_eq_true_eq,decide_eq_false_iff_not,beq_iff_eq] at hS2);first | (simp [hS2];done) | (rcases hS2 with hS2 | hS2<;>simp [hS2]))⟩,by omega⟩⟩⟩) (J:=fun ze a w=>match ze with | .normal=>∃ j',(j'≤l∧Has Tryz.f142.ntmps [(1,.pointer (some ⟨b0,0,none⟩)),(7,.slice (some ⟨b1,o1,none⟩) l c),(8,.int .i64 l),(9,.int .i64 j')] a∧Fits [] w0 [⟨b0,0,165,[.slice (some ⟨b1,o1,none⟩) l c,.slice g m d],.row⟩] w∧(allF Es (Es.drop j') j'=allF Es Es 0))∧l - j' < l - j | ze=>(ze=.exit 0∧Has Tryz.f142.ntmps [] a∧Fits [] w0 [⟨b0,0,165,[.slice (some ⟨b1,o1,none⟩) l c,.slice g m d],.row⟩] w∧(allF Es Es 0=true))∨(ze=.ret∧bodyPost Tryz.prog Tryz.f142 R .ret a w)) (fun _ _ h=>Or.inr ⟨rfl,h⟩) (fun e _ _ h=>by cases e<;>exact h) (fun _=>by cases q0<;>kernel_rfl)
 ·have hd:decide ((j:Int) < l)=false:=decide_eq_false (by omega)
  exact wp_ex mixedT Tryz.f142 [(1,.pointer (some ⟨b0,0,none⟩)),(7,.slice f l c),(8,.int .i64 l),(9,.int .i64 j)] [⟨b0,0,165,[.slice f l c,.slice g m d],.row⟩] (.r 2 [(0,.rw (fun _=>.bool (decide ((j:Int) < l))) (fun _=>.bool false))] (.out (some 0) (fun _=>[]) [(0,(fun _=>⟨b0,0,165,[.slice f l c,.slice g m d],.row⟩))])) hT hF (⟨fun _=>congrArg Value.bool hd,fun _ _ _ hT1 hF1=>Or.inl (by have hjl:j=l:=(by omega);subst hjl;exact ⟨rfl,hT1,hF1,by rw [← hV,hn,List.drop_length];rfl⟩)⟩) (J:=fun ze a w=>match ze with | .normal=>∃ j',(j'≤l∧Has Tryz.f142.ntmps [(1,.pointer (some ⟨b0,0,none⟩)),(7,.slice f l c),(8,.int .i64 l),(9,.int .i64 j')] a∧Fits [] w0 [⟨b0,0,165,[.slice f l c,.slice g m d],.row⟩] w∧(allF Es (Es.drop j') j'=allF Es Es 0))∧l - j' < l - j | ze=>(ze=.exit 0∧Has Tryz.f142.ntmps [] a∧Fits [] w0 [⟨b0,0,165,[.slice f l c,.slice g m d],.row⟩] w∧(allF Es Es 0=true))∨(ze=.ret∧bodyPost Tryz.prog Tryz.f142 R .ret a w)) (fun _ _ h=>Or.inr ⟨rfl,h⟩) (fun e _ _ h=>by cases e<;>exact h) (fun _=>by kernel_rfl)
theorem tents_any (f g:Option Addr) (l c m d:Nat) (Es:List Ety) (w:World) (hL:RowsAt KE w f Es) (hn:l=Es.length) (hl:l≤1000000) (hc:l≤c) (hc2:c≤maxLen) :
  Calls Tryz.prog 142 #[.agg #[.slice f l c,.slice g m d]] w fun r w'=>r=.returned (.bool (allF Es Es 0))∧Below w.heap.size w w':=by
 exact calls_ex mixedT [] (.r 1 [a1 2 0 0] (.cc (nthLoop Tryz.f142 0) (fun E=>[(1,.pointer (some ⟨E.b 0,0,none⟩)),(7,.slice f l c),(8,.int .i64 l),(9,.int .i64 0)]) [(0,(fun E=>⟨E.b 0,0,165,[.slice f l c,.slice g m d],.own⟩))] (some 0) (fun _=>[]) [] 1 [fun _=>.one (fun _=>allF Es Es 0=true)] (.fin [] (fun _=>.bool true) [(1,(fun E=>⟨0,0,0,[],.fact ((E.f 1).map (·.block)) ((fun _=>allF Es Es 0=true))⟩))]))) Tryz.func142 rfl (Fits.nil w) (⟨fun E a W hT hF=>wp_mono (tents_loop f g l c m d _ Es (hL.below hF.keep.below) hn hl hc (fun _ hk=>⟨rfl,(hF.keep.trans hk).below⟩) hT hF.ro) fun e a w h=>h.imp (fun h=>⟨h.1,CPost.told h.2.2.2 hF.keep h.2.2.1.keep h.2.1⟩) id,fun _ _ hk hp=>⟨by rw [(hp.1 _ (List.mem_singleton.2 rfl)).2.2.1],hk.below⟩⟩) rfl (fun _=>by kernel_rfl)
theorem may_len8 (n:Nat):decide (n≤8)=decide ((n:Int)≤8):=by
 rw [Bool.eq_iff_iff]
 simp
 omega
theorem tmay_any (f g:Option Addr) (l c m d:Nat) (Es:List Ety) (Ds:List Inv) (w:World) (hL:RowsAt KE w f Es) (hn:l=Es.length) (hD:RowsAt KI w g Ds) (ho:m=Ds.length) (hl:l≤1000000) (hm:m≤1000000) (hc:l≤c) (hc2:c≤maxLen) :
  Calls Tryz.prog 108 #[.agg #[.slice f l c,.slice g m d]] w fun r w'=>r=.returned (.bool (mayT Es Ds))∧Below w.heap.size w w':=by
 obtain ⟨q0,hq0⟩:∃ b,(decide ((l:Int)≤8))=b:=⟨_,rfl⟩
 obtain ⟨q1,hq1⟩:∃ b,(decide ((m:Int)≤8))=b:=⟨_,rfl⟩
 obtain ⟨q2,hq2⟩:∃ b,(allF Es Es 0)=b:=⟨_,rfl⟩
 obtain ⟨q3,hq3⟩:∃ b,(allV Ds)=b:=⟨_,rfl⟩
 exact calls_ex mixedT [] (.r 1 [a1 2 0 0,(4,.rw (fun _=>.bool (decide ((l:Int)≤8))) (fun _=>.bool q0)),a1 8 0 1,(10,.rw (fun _=>.bool (decide ((m:Int)≤8))) (fun _=>.bool q1)),aN 13 0 0 2,(14,.call 142 (fun _=>[.agg #[.slice f l c,.slice g m d]]) (fun _=>.bool q2)),aN 17 0 0 2,(18,.call 143 (fun _=>[.agg #[.slice f l c,.slice g m d]]) (fun _=>.bool q3))] (.fin [] (fun _=>.bool (((q0&&q1)&&q2)&&q3)) [])) Tryz.func108 rfl (Fits.nil w) (⟨fun _=>congrArg Value.bool hq0,fun _=>congrArg Value.bool hq1,fun _ W hk=>(tents_any f g l c m d Es W (hL.below hk.below) hn hl hc hc2).mono fun _ _ hJ=>⟨hJ.1.trans (by rw [hq2]),hJ.2⟩,fun _ W hk=>(tdues_any f g l c m d Ds W (hD.below hk.below) ho hm).mono fun _ _ hJ=>⟨hJ.1.trans (by rw [hq3]),hJ.2⟩,fun _ _ h _=>⟨ret_bool (by subst hq0 hq1 hq2 hq3;subst hn ho;unfold mayT;rw [may_len8 Es.length,may_len8 Ds.length];cases allF Es Es 0<;>cases allV Ds<;>simp),h.below⟩⟩) rfl (fun _=>by cases q0;(kernel_rfl);(cases q1;(kernel_rfl);(cases q2<;>kernel_rfl)))
end Go.Proofs.YtlgpdbgingjpbaaGreat
