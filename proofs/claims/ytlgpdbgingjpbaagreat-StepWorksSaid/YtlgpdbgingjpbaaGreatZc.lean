/- Stage 14: the landed package access: what is remembered,and stage 2 behind it: contracts. -/
import Derived.Test.YtlgpdbgingjpbaaGreatZb
set_option linter.all false
namespace Go.Proofs.YtlgpdbgingjpbaaGreat
open Go.ChangeShapes Go.WideShapes Go.ChangeAt Go.RowKit Go.Deep
abbrev TrF (k:TrC) (b:Nat) (lv fr:Int) (Es:List Ety) (Ds:List Inv) (Rs:List Int) (fE fD fR:Option Addr) (cE cD cR:Nat) (W:World):Prop:=Fits (ft4 b fE fD fR) W [⟨b,0,262,trpC k lv fr (.slice fE Es.length cE) (.slice fD Ds.length cD) (.slice fR Rs.length cR),.own⟩,ownFx KE.t 14 fE Es.length cE (rcells KE Es),ownFx KI.t 4 fD Ds.length cD (rcells KI Ds),ownFx 3 1 fR Rs.length cR (icells Rs)] W
abbrev TrE (k:TrC) (b:Nat) (lv fr:Int) (fE fD fR:Option Addr) (W:World) (v:Value) (Es:List Ety) (Ds:List Inv) (Rs:List Int):Ending→World→Prop:=MidEnd (ft4 b fE fD fR) W b 262 (trpC k lv fr) v Es Ds Rs
theorem endF_post {ft:List Nat} {w0 W w':World} {k:Nat} {pre:BL} {E:Env} {e:Ending} {q:List Ety×List Inv×Int} (hk:Keep ft w0 W) (h:EndF W q e w') :
  ∃ z,GPost ft w0 k (fun E=>.tuple #[.agg #[.slice (E.f k) q.1.length (E.b k),.slice (E.f (k+1)) q.2.1.length (E.b (k+1))],.int .i64 q.2.2]) pre [] [fun E=>OwnP KE.t 14 (E.f k) q.1.length (E.b k) (rcells KE q.1),fun E=>OwnP KI.t 4 (E.f (k+1)) q.2.1.length (E.b (k+1)) (rcells KI q.2.1)] E W e w' z:=by
 obtain ⟨f',l',c',g',m',d',he,hl,hm,h1,h2,hb⟩:=h
 subst hl hm
 refine GPost.own2 hk hb (by decide) h1 h2 ?_
 have e1:((E.set k (c',f')).set (k+1) (d',g')).e k=(c',f'):=by rw [set_ne _ _ _ _ (by omega),set_at]
 have e2:((E.set k (c',f')).set (k+1) (d',g')).f k=f':=by unfold Env.f;rw [e1]
 have e3:((E.set k (c',f')).set (k+1) (d',g')).b k=c':=by unfold Env.b;rw [e1]
 rw [he,e2,e3,set_f,set_c]
theorem Fits.take {ft:List Nat} {w0 w:World} {h:List Bx} (H:Fits ft w0 h w) (n:Nat):Fits ft w0 (h.take n) w:=by
 have key:∀ {i:Nat} {x:Bx},(h.take n)[i]?=some x→h[i]?=some x:=fun {i x} hi=>by
  rw [List.getElem?_take] at hi
  split at hi
  ·exact hi
  ·cases hi
 exact ⟨H.keep,fun i x hi=>H.all i x (key hi),fun i j x y hi hj=>H.ne i j x y (key hi) (key hj)⟩
theorem Fits.stay {ft ft':List Nat} {w0 W w':World} {h:List Bx} (H:Fits ft w0 h W) (hk:Keep ft' W w') (i:Nat) {x:Bx} (hi:h[i]?=some x) (hf:∀ b∈ft',∃ j y,j≠i∧h[j]?=some y∧y.fp b):x.Holds ft w0 w':=
 (H.all i x hi).to (fun b hb=>hk.block b ((H.all i x hi).lt hb) (fun hm=>by
  obtain ⟨j,y,hj,hy,hfp⟩:=hf b hm
  exact H.ne j i y x hy hi hj b hfp hb)) hk.size
theorem on2 {b:Nat} {t eR:TypeId} {cs xR:List Value} {sR nR cR:Nat} {fR:Option Addr} {z:Bx}:∀ c∈b :: (fR.map (·.block)).toList,∃ j y,j≠2∧[⟨b,0,t,cs,.own⟩,ownFx eR sR fR nR cR xR,z][j]?=some y∧y.fp c:=fun c hc=>by
 simp only [List.mem_cons,Option.mem_toList] at hc
 rcases hc with rfl | hc
 ·exact ⟨0,_,by decide,rfl,rfl⟩
 ·exact ⟨1,_,by decide,rfl,hc⟩
theorem on4 {b:Nat} {t eE eD eR:TypeId} {cs xE xD xR:List Value} {sE sD sR nE nD nR cE cD cR:Nat} {fE fD fR:Option Addr} {z:Bx}:∀ c∈ft4 b fE fD fR,∃ j y,j≠4∧[⟨b,0,t,cs,.own⟩,ownFx eE sE fE nE cE xE,ownFx eD sD fD nD cD xD,ownFx eR sR fR nR cR xR,z][j]?=some y∧y.fp c:=fun c hc=>by
 simp only [List.mem_cons,List.mem_append,Option.mem_toList] at hc
 rcases hc with rfl | (hc | hc) | hc
 ·exact ⟨0,_,by decide,rfl,rfl⟩
 ·exact ⟨1,_,by decide,rfl,hc⟩
 ·exact ⟨2,_,by decide,rfl,hc⟩
 ·exact ⟨3,_,by decide,rfl,hc⟩
theorem box_own {W:World} {b n s:Nat} {t:TypeId} {cs:List Value} (h:W.heap[b]?=some (.cells cs.toArray t)) (hl:cs.length=n * s) (hn:n≤1000):OwnP t s (some ⟨b,0,none⟩) n n cs W:=
 ⟨hl,Or.inr ⟨b,n,cs.toArray,rfl,Nat.zero_le _,h,Nat.le_refl _,by unfold maxLen;omega,by simpa using hl,by
  show cs.take (n * s)=cs
  rw [← hl,List.take_length]⟩⟩
theorem full_opc {ft:List Nat} {w0 W:World} {E:Env} {ρ:Operand→Value} {o:Oper} {s x:Operand} (ho:o.op=.call ⟨.builtin .append,#[s,x],#[KA.ts,KA.ts]⟩) {k:Nat} {ab:List Atr} {q:Atr} {fA:Option Addr} {b d:Nat} {bx:Nat×(Env→Bx)} (hx:[ρ s,ρ x]=[.slice fA ab.length ab.length,.slice (some ⟨b,0,none⟩) 1 d]) (hk:Keep ft w0 W)
  (hA:OwnP KA.t 6 fA ab.length ab.length (rcells KA ab) W) (hp:∀ p∈[bx],(p.2 E).Holds ft w0 W) (hbx:bx.2 E=⟨b,0,KA.t,(atrC q).toList,.own⟩) (hlen:ab.length≤1000) :
  ∃ r q' w',(execOp ρ o).run Tryz.prog W=.ok (.value r) w'∧GPost ft w0 k (fun E=>.slice (E.f k) (ab++[q]).length (E.b k)) [bx] [] [fun E=>OwnP KA.t 6 (E.f k) (ab++[q]).length (E.b k) (rcells KA (ab++[q]))] E W (.returned r) w' q':=by
 have hbox:=hp bx (List.mem_singleton.2 rfl)
 rw [hbx] at hbox
 have e1:rcells KA (ab++[q])=rcells KA ab++(atrC q).toList:=by rw [rcells_append];simp [rcells];rfl
 rw [e1,List.length_append]
 have hB:BoxAt W b (atrC q) KA.t:=⟨by simpa using hbox.2.2⟩
 have hnews:∀ j u,(atrC q).toList[j]?=some u→W.cell? ((⟨b,0,none⟩:Addr).add j)=some u:=fun j u hj=>by
  rw [add_none,Nat.zero_add]
  exact hB.get j u (by simpa using hj)
 have hi:(Tryz.prog.info? KA.t).map (fun i=>(i.zero,i.size,i.bytes))=some (some KA.z,6,16):=by kernel_rfl
 obtain ⟨f',c',w',hr,hown,hg,hat⟩:=run_append_at (P:=Tryz.prog) (W:=W) KA.ts o.type KA.t (z:=KA.z) (size:=6) (bytes:=16) KA.under hi rfl (by decide) (by decide) hA (a:=⟨b,0,none⟩) (m:=1) (d:=d) (news:=(atrC q).toList) rfl hnews (fun u hu=>rcells_one KA [q] u (by simp [rcells];simpa [KA] using hu)) (by omega) (by decide)
 have hex:f'=some ⟨W.heap.size,0,none⟩∧∃ z,w'=W.drew.alloc z:=by
  obtain ⟨i,hq,hqz⟩:=Option.map_eq_some_iff.1 hi
  obtain ⟨hz0,hz1,hz2⟩:i.zero=some KA.z∧i.size=6∧i.bytes=16:=by
   simp only [Prod.mk.injEq] at hqz
   exact hqz
  rcases hA.2 with ⟨hv,h0⟩ | ⟨g,cap,cur,hv,_,hgc,hnc,hcm,hcs,htake⟩
  ·injection hv with hf hn0 hc0
   subst hf
   rw [hn0] at hr
   have hr2:=run_append_nil (P:=Tryz.prog) W KA.ts o.type KA.t i KA.z KA.under hq hz0 ⟨b,0,none⟩ 1 d (atrC q).toList (by rw [hz1];rfl) hnews (by decide) (by decide) (by rw [hz2];decide)
   rw [hr] at hr2
   injection hr2 with e1 e2
   injection e1 with e1
   exact ⟨e1,_,e2⟩
  ·injection hv with hf hn0 hc0
   subst hf hc0
   have hr2:=run_append_grow (P:=Tryz.prog) W KA.ts o.type KA.t i KA.z KA.under hq hz0 ⟨g,0,none⟩ ab.length ab.length (rcells KA ab) (by rw [hz1];exact hA.1) (World.ownsRow.cells (g:=g) hA rfl) ⟨b,0,none⟩ 1 d (atrC q).toList (by rw [hz1];rfl) hnews (by omega) (by omega) (growslice_fits (by omega) (by rw [hz2];omega))
   rw [hr] at hr2
   injection hr2 with e1 e2
   injection e1 with e1
   exact ⟨e1,_,e2⟩
 obtain ⟨rfl,z,rfl⟩:=hex
 have hb:Below W.heap.size W (W.drew.alloc z):=bel_alloc (Below.drew (Below.refl _ _)) _
 have hO:(W.drew.alloc z).ownsRow W.heap.size KA.t 6 (.slice (some ⟨W.heap.size,0,none⟩) (ab.length+1) c') (ab.length+1) (rcells KA ab++(atrC q).toList):=by
  refine ⟨hown.1,?_⟩
  rcases hown.2 with ⟨hv,_⟩ | ⟨g,cap,cur,hv,_,rest⟩
  ·cases hv
  ·refine Or.inr ⟨g,cap,cur,hv,?_,rest⟩
   injection hv with hf
   injection hf with hf
   injection hf with hf
   omega
 obtain ⟨q',hq'⟩:=GPost.own1 (k:=k) (v:=fun E=>.slice (E.f k) (ab.length+1) (E.b k)) (pre:=[bx]) (e:=.returned (.slice (some ⟨W.heap.size,0,none⟩) (ab.length+1) c')) (E:=E) hk hb hO (by rw [set_f,set_c])
 simp only [List.cons.injEq,and_true] at hx
 refine ⟨_,q',_,?_,hq'⟩
 unfold execOp
 simp only [ho,resolve,invoke,builtin,Sem.run_bind,Sem.run_pure,Result.andThen_ok,List.map_toArray,List.map_cons,List.map_nil,hx.1,hx.2,hr]
theorem dropR_tell {Es:List Ety} {Ds:List Inv} {pd:Int} (h:mayT Es Ds=true) {q:List Ety×List Inv×Int} (hq:dropR Es Ds pd=q):(q.2.2=0∧q.1=dropA Es pd∧q.2.1=Ds)∨(q.2.2≠0∧Es=dropA Es pd):=by
 subst hq
 unfold dropR dropA
 rw [if_pos h]
 by_cases hd:0≤pd∧pd < (Es.length:Int)
 ·rw [if_pos hd,if_pos (by simp only [Bool.and_eq_true,decide_eq_true_eq];exact hd)]
  exact Or.inl ⟨rfl,rfl,rfl⟩
 ·rw [if_neg hd,if_neg (by simp only [Bool.and_eq_true,decide_eq_true_eq];exact hd)]
  exact Or.inr ⟨by decide,rfl⟩
theorem reach_used {k:TrC} {s:WkS} {Ds:List Inv} {mid acc:Int} (hT:mayT s.E Ds=true) (h5:is5 k.tg mid acc=true) {q:Ety×Int} (hq:firstR s.E Ds 2 k.tg 0 mid acc=q) :
  reachL k.a s mid acc=if (k.pu&&(q.2==0))=true then ((⟨q.1.fr,mid,q.1.t,0⟩,flt0),s) else reachM k.a s (midD k.l k.X true k.tf mid acc):=by
 subst hq
 unfold reachL mid9
 rcases look5 hT h5 with ⟨h1,h2⟩ | ⟨i,y,h1,h2,h3⟩
 ·rw [h1,h2,if_neg (by rintro ⟨_,h⟩;exact absurd h (by decide)),if_neg (by simp)]
 ·have hy:s.E.getD (i:Int).toNat ent0=y:=by rw [Int.toNat_natCast,List.getD_eq_getElem?_getD,h1];rfl
  rw [h2,h3,hy]
  by_cases hu:k.pu=true
  ·rw [if_pos ⟨hu,by omega⟩,if_pos (by rw [hu];rfl)]
  ·rw [if_neg (fun h=>hu h.1),if_neg (by simp [hu])]
theorem bq_and (b:Bool) (x:Int):(b&&!(x != 0))=decide (b=true∧x=0):=by
 cases b<;>by_cases h:x=0<;>simp [h]
theorem aopen_any (k:TrC) (b:Nat) (lv fr:Int) (fE fD:Option Addr) (cE cD:Nat) (Es:List Ety) (Ds:List Inv) (W:World) (hb:W.heap[b]?=some (.cells (trpC k lv fr (.slice fE Es.length cE) (.slice fD Ds.length cD) (.slice none 0 0)).toArray 262))
  (hE:∀ w,Keep [b] W w→RowsAt KE w fE Es) (hD:∀ w,Keep [b] W w→RowsAt KI w fD Ds) (hls:Es.length≤90000) (hms:Ds.length≤90000) (hc:Es.length≤cE) (hc2:cE≤maxLen) (hf:fE=none→cE=0) (hg:fD=none→cD=0) (hT:mayT Es Ds=true) :
  Calls Tryz.prog 190 #[.pointer (some ⟨b,0,none⟩)] W (TrE k b lv fr none none none W (.tuple #[]) (dropA Es k.pd) Ds []):=by
 obtain ⟨⟨dE,dD,de⟩,hq⟩:∃ q,dropR Es Ds k.pd=q:=⟨_,rfl⟩
 exact calls_ex mixedT [⟨b,0,262,trpC k lv fr (.slice fE Es.length cE) (.slice fD Ds.length cD) (.slice none ([]:List Int).length 0),.own⟩,ownFx 3 1 none ([]:List Int).length 0 (icells ([]:List Int))] (.r 0 [aN 3 0 0 2,a1 8 0 6,(9,.callg 232 (fun _=>[.agg #[.slice fE Es.length cE,.slice fD Ds.length cD],.int .i64 k.pd]) (fun E=>.tuple #[.agg #[.slice (E.f 2) dE.length (E.b 2),.slice (E.f 3) dD.length (E.b 3)],.int .i64 de]) [] [] 2 [fun E=>OwnP KE.t 14 (E.f 2) dE.length (E.b 2) (rcells KE dE),fun E=>OwnP KI.t 4 (E.f 3) dD.length (E.b 3) (rcells KI dD)]),aN 14 4 0 2] (.split (de != 0) (.r 2 [a1 4 0 0,(5,.callg 86 (fun _=>[.slice fE Es.length cE]) (fun E=>.slice (E.f 5) Es.length (E.b 5)) [] [] 5 [fun E=>OwnP KE.t 14 (E.f 5) Es.length (E.b 5) (rcells KE Es)]),a1 10 0 1,(11,.callg 87 (fun _=>[.slice fD Ds.length cD]) (fun E=>.slice (E.f 6) Ds.length (E.b 6)) [] [] 6 [fun E=>OwnP KI.t 4 (E.f 6) Ds.length (E.b 6) (rcells KI Ds)]),aN 13 4 0 2] (.r 3 [aN 1 4 0 2,aN 4 0 0 2] (.fin [] (fun _=>.tuple #[]) [(0,(fun E=>⟨b,0,262,trpC k lv fr (.slice (E.f 5) Es.length (E.b 5)) (.slice (E.f 6) Ds.length (E.b 6)) (.slice none ([]:List Int).length 0),.own⟩)),(5,(fun E=>ownFx KE.t 14 (E.f 5) Es.length (E.b 5) (rcells KE Es))),(6,(fun E=>ownFx KI.t 4 (E.f 6) Ds.length (E.b 6) (rcells KI Ds))),(1,(fun _=>ownFx 3 1 none ([]:List Int).length 0 (icells ([]:List Int))))]))) (.r 3 [aN 1 4 0 2,aN 4 0 0 2] (.fin [] (fun _=>.tuple #[]) [(0,(fun E=>⟨b,0,262,trpC k lv fr (.slice (E.f 2) dE.length (E.b 2)) (.slice (E.f 3) dD.length (E.b 3)) (.slice none ([]:List Int).length 0),.own⟩)),(2,(fun E=>ownFx KE.t 14 (E.f 2) dE.length (E.b 2) (rcells KE dE))),(3,(fun E=>ownFx KI.t 4 (E.f 3) dD.length (E.b 3) (rcells KI dD))),(1,(fun _=>ownFx 3 1 none ([]:List Int).length 0 (icells ([]:List Int))))])))) Tryz.func190 rfl ((Fits.box hb).nilrow 3 1) (⟨fun E W hk _=>(dropC fE fD _ cE _ cD Es Ds k.pd W (hE W hk) rfl (hD W hk) rfl hls hms hc hc2 hf hg).mono fun e w' h=>by rw [hq] at h;exact endF_post hk h,fun hS1=>⟨fun E W hk _=>(tclE_any fE _ cE Es W (hE W hk) rfl (by omega) hf).mono fun e w' h=>row_post hk h,fun E W hk _=>(tclI_any fD _ cD Ds W (hD W hk) rfl (by omega) hg).mono fun e w' h=>row_post hk h,fun E W hk hp=>by rcases dropR_tell hT hq with h | h;exact absurd h.1 (by simpa using hS1);rw [← h.2];exact ⟨E.f 5,E.b 5,E.f 6,E.b 6,none,0,rfl,hp.2 rfl⟩⟩,fun hS1=>fun E W hk hp=>by rcases dropR_tell hT hq with h | h;rotate_left;exact absurd (by simpa using hS1) h.1;obtain ⟨_,h1,h2⟩:=h;simp only at h1 h2;subst h2;rw [← h1];exact ⟨E.f 2,E.b 2,E.f 3,E.b 3,none,0,rfl,hp.2 rfl⟩⟩) rfl (fun _=>by kernel_rfl)
theorem awhole_any (k:TrC) (lv fr:Int) (b:Nat) (fE fD:Option Addr) (cE cD:Nat) (Es:List Ety) (Ds:List Inv) (sR:Value) (qe:Ety) (qn:Int) (pg acc:Int) (w:World) (hE:RowsAt KE w fE Es) (hD:RowsAt KI w fD Ds) (hls:Es.length≤90000) (hms:Ds.length≤90000) (hc:Es.length≤cE) (hc2:cE≤maxLen) (hq:firstR Es Ds 1 k.tg k.tg1 pg acc=(qe,qn)) (hb:Fits [] w [⟨b,0,262,trpC k lv fr (.slice fE Es.length cE) (.slice fD Ds.length cD) sR,.row⟩] w) :
  Calls Tryz.prog 234 #[.pointer (some ⟨b,0,none⟩),.int .i64 pg,.int .i64 acc] w fun e w'=>e=.returned (.tuple #[entV qe,.bool (k.pu&&(qn==0))])∧Below w.heap.size w w':=by
 obtain ⟨q0,hq0⟩:∃ b,(k.pu)=b:=⟨_,rfl⟩
 obtain ⟨q1,hq1⟩:∃ b,(qn==0)=b:=⟨_,rfl⟩
 exact calls_ex mixedT [⟨b,0,262,trpC k lv fr (.slice fE Es.length cE) (.slice fD Ds.length cD) sR,.row⟩] (.r 1 [aN 3 0 0 2,a1 7 0 8,a1 11 0 9,(14,.call 259 (fun _=>[.agg #[.slice fE Es.length cE,.slice fD Ds.length cD],.int .i64 k.tg,.int .i64 k.tg1,.int .i64 pg,.int .i64 acc]) (fun _=>.tuple #[entV qe,.int .i64 qn])),aN 19 2 0 14] (.r 2 [aN 0 2 0 14,a1 5 0 7,(6,.rw (fun _=>.bool k.pu) (fun _=>.bool q0)),(8,.rw (fun _=>.bool (qn==0)) (fun _=>.bool q1)),aN 10 1 0 14] (.fin [(1,0,14)] (fun _=>.tuple #[entV qe,.bool (q0&&q1)]) []))) Tryz.func234 rfl hb (⟨fun _ W hk=>(wholeC fE fD _ cE _ cD Es Ds k.tg k.tg1 pg acc W (hE.below hk.below) rfl (hD.below hk.below) rfl hls hms hc hc2).mono fun _ _ hJ=>⟨hJ.1.trans (by rw [hq]),hJ.2⟩,fun _=>congrArg Value.bool hq0,fun _=>congrArg Value.bool hq1,fun _ _ h _=>⟨by subst hq0 hq1;rfl,h.below⟩⟩) rfl (fun _=>by cases q0<;>kernel_rfl)
theorem atable_any (k:TrC) (lv fr:Int) (b:Nat) (fE fD:Option Addr) (cE cD:Nat) (Es:List Ety) (Ds:List Inv) (sR:Value) (qe:Ety) (qn:Int) (pg:Int) (w:World) (hE:RowsAt KE w fE Es) (hD:RowsAt KI w fD Ds) (hls:Es.length≤90000) (hms:Ds.length≤90000) (hc:Es.length≤cE) (hc2:cE≤maxLen) (hq:deepR Es Ds k.tg k.tg1 pg=(qe,qn)) (hb:Fits [] w [⟨b,0,262,trpC k lv fr (.slice fE Es.length cE) (.slice fD Ds.length cD) sR,.row⟩] w) :
  Calls Tryz.prog 280 #[.pointer (some ⟨b,0,none⟩),.int .i64 pg] w fun e w'=>e=.returned (.tuple #[entV qe,.bool (k.pu&&(qn==0))])∧Below w.heap.size w w':=by
 obtain ⟨q0,hq0⟩:∃ b,(k.pu)=b:=⟨_,rfl⟩
 obtain ⟨q1,hq1⟩:∃ b,(qn==0)=b:=⟨_,rfl⟩
 exact calls_ex mixedT [⟨b,0,262,trpC k lv fr (.slice fE Es.length cE) (.slice fD Ds.length cD) sR,.row⟩] (.r 1 [aN 3 0 0 2,a1 7 0 8,a1 11 0 9,(13,.call 294 (fun _=>[.agg #[.slice fE Es.length cE,.slice fD Ds.length cD],.int .i64 k.tg,.int .i64 k.tg1,.int .i64 pg]) (fun _=>.tuple #[entV qe,.int .i64 qn])),aN 18 2 0 14] (.r 2 [aN 0 2 0 14,a1 5 0 7,(6,.rw (fun _=>.bool k.pu) (fun _=>.bool q0)),(8,.rw (fun _=>.bool (qn==0)) (fun _=>.bool q1)),aN 10 1 0 14] (.fin [(1,0,14)] (fun _=>.tuple #[entV qe,.bool (q0&&q1)]) []))) Tryz.func280 rfl hb (⟨fun _ W hk=>(tlbWalkC fE fD _ cE _ cD Es Ds k.tg k.tg1 pg W (hE.below hk.below) rfl (hD.below hk.below) rfl hls hms hc hc2).mono fun _ _ hJ=>⟨hJ.1.trans (by rw [hq]),hJ.2⟩,fun _=>congrArg Value.bool hq0,fun _=>congrArg Value.bool hq1,fun _ _ h _=>⟨by subst hq0 hq1;rfl,h.below⟩⟩) rfl (fun _=>by cases q0<;>kernel_rfl)
theorem amid_any (k:TrC) (lv fr:Int) (b:Nat) (fE fD:Option Addr) (cE cD:Nat) (Es:List Ety) (Ds:List Inv) (sR:Value) (qe:Ety) (qn:Int) (pg acc:Int) (w:World) (hE:RowsAt KE w fE Es) (hD:RowsAt KI w fD Ds) (hls:Es.length≤90000) (hms:Ds.length≤90000) (hc:Es.length≤cE) (hc2:cE≤maxLen) (hq:firstR Es Ds 2 k.tg 0 pg acc=(qe,qn)) (hb:Fits [] w [⟨b,0,262,trpC k lv fr (.slice fE Es.length cE) (.slice fD Ds.length cD) sR,.row⟩] w) :
  Calls Tryz.prog 273 #[.pointer (some ⟨b,0,none⟩),.int .i64 pg,.int .i64 acc] w fun e w'=>e=.returned (.tuple #[entV qe,.bool (k.pu&&(qn==0))])∧Below w.heap.size w w':=by
 obtain ⟨q0,hq0⟩:∃ b,(k.pu)=b:=⟨_,rfl⟩
 obtain ⟨q1,hq1⟩:∃ b,(qn==0)=b:=⟨_,rfl⟩
 exact calls_ex mixedT [⟨b,0,262,trpC k lv fr (.slice fE Es.length cE) (.slice fD Ds.length cD) sR,.row⟩] (.r 1 [aN 3 0 0 2,a1 7 0 8,(10,.call 289 (fun _=>[.agg #[.slice fE Es.length cE,.slice fD Ds.length cD],.int .i64 k.tg,.int .i64 pg,.int .i64 acc]) (fun _=>.tuple #[entV qe,.int .i64 qn])),aN 15 2 0 14] (.r 2 [aN 0 2 0 14,a1 5 0 7,(6,.rw (fun _=>.bool k.pu) (fun _=>.bool q0)),(8,.rw (fun _=>.bool (qn==0)) (fun _=>.bool q1)),aN 10 1 0 14] (.fin [(1,0,14)] (fun _=>.tuple #[entV qe,.bool (q0&&q1)]) []))) Tryz.func273 rfl hb (⟨fun _ W hk=>(midC fE fD _ cE _ cD Es Ds k.tg pg acc W (hE.below hk.below) rfl (hD.below hk.below) rfl hls hms hc hc2).mono fun _ _ hJ=>⟨hJ.1.trans (by rw [hq]),hJ.2⟩,fun _=>congrArg Value.bool hq0,fun _=>congrArg Value.bool hq1,fun _ _ h _=>⟨by subst hq0 hq1;rfl,h.below⟩⟩) rfl (fun _=>by cases q0<;>kernel_rfl)
theorem akeep_any (k:TrC) (b:Nat) (lv fr:Int) (Es:List Ety) (Ds:List Inv) (Rs:List Int) (fE fD fR:Option Addr) (cE cD cR:Nat) (W:World) (hF:TrF k b lv fr Es Ds Rs fE fD fR cE cD cR W) (e:Ety) (hT:mayT Es Ds=true) (he:mayEn e=true) :
  Calls Tryz.prog 264 #[.pointer (some ⟨b,0,none⟩),entV e] W (TrE k b lv fr fE fD fR W (.tuple #[]) (fill9 Es e) Ds Rs):=by
 exact calls_ex mixedT [⟨b,0,262,trpC k lv fr (.slice fE Es.length cE) (.slice fD Ds.length cD) (.slice fR Rs.length cR),.own⟩,ownFx KE.t 14 fE Es.length cE (rcells KE Es),ownFx KI.t 4 fD Ds.length cD (rcells KI Ds),ownFx 3 1 fR Rs.length cR (icells Rs)] (.r 1 [aN 4 0 0 2,aN 5 4 0 14,(6,.callg 286 (fun _=>[.agg #[.slice fE Es.length cE,.slice fD Ds.length cD],entV e]) (fun E=>.tuple #[.agg #[.slice (E.f 5) (fill9 Es e).length (E.b 5),.slice (E.f 6) Ds.length (E.b 6)],.int .i64 0]) [(1,(fun _=>ownFx KE.t 14 fE Es.length cE (rcells KE Es))),(2,(fun _=>ownFx KI.t 4 fD Ds.length cD (rcells KI Ds)))] [] 5 [fun E=>OwnP KE.t 14 (E.f 5) (fill9 Es e).length (E.b 5) (rcells KE (fill9 Es e)),fun E=>OwnP KI.t 4 (E.f 6) Ds.length (E.b 6) (rcells KI Ds)]),aN 12 0 0 2] (.fin [] (fun _=>.tuple #[]) [(0,(fun E=>⟨b,0,262,trpC k lv fr (.slice (E.f 5) (fill9 Es e).length (E.b 5)) (.slice (E.f 6) Ds.length (E.b 6)) (.slice fR Rs.length cR),.own⟩)),(5,(fun E=>ownFx KE.t 14 (E.f 5) (fill9 Es e).length (E.b 5) (rcells KE (fill9 Es e)))),(6,(fun E=>ownFx KI.t 4 (E.f 6) Ds.length (E.b 6) (rcells KI Ds))),(3,(fun _=>ownFx 3 1 fR Rs.length cR (icells Rs)))])) Tryz.func264 rfl hF (⟨fun E W hk hp=>(fillC fE fD _ cE _ cD Es Ds e W (own_rows (hp.1 _ (List.mem_cons_self ..))) rfl (own_rows (hp.1 _ (List.mem_cons_of_mem _ (List.mem_singleton.2 rfl)))) rfl (by have:=mayT_len hT;omega) (by have:=mayT_len hT;omega) (own_room (hp.1 _ (List.mem_cons_self ..)).2.2.1).1 (own_room (hp.1 _ (List.mem_cons_self ..)).2.2.1).2.1 (own_room (hp.1 _ (List.mem_cons_self ..)).2.2.1).2.2 (own_room (hp.1 _ (List.mem_cons_of_mem _ (List.mem_singleton.2 rfl))).2.2.1).2.2).mono fun e' w' h=>by rw [show fillR Es Ds e=(fill9 Es e,Ds,0) from by unfold fillR;rw [hT,he];rfl] at h;exact endF_post hk h,fun E W hk hp=>⟨E.f 5,E.b 5,E.f 6,E.b 6,fR,cR,rfl,hp.2 rfl⟩⟩) rfl (fun _=>by kernel_rfl)
theorem akeepW_any (k:TrC) (b:Nat) (lv fr:Int) (Es:List Ety) (Ds:List Inv) (Rs:List Int) (fE fD fR:Option Addr) (cE cD cR:Nat) (W:World) (hF:TrF k b lv fr Es Ds Rs fE fD fR cE cD cR W) (pg:Int) (h:Hit) (hT:mayT Es Ds=true) (he:mayEn (whoE k.a pg h)=true) :
  Calls Tryz.prog 237 #[.pointer (some ⟨b,0,none⟩),.int .i64 pg,hitV h] W (TrE k b lv fr fE fD fR W (.tuple #[]) (fill9 Es (whoE k.a pg h)) Ds Rs):=by
 exact calls_ex mixedT [⟨b,0,262,trpC k lv fr (.slice fE Es.length cE) (.slice fD Ds.length cD) (.slice fR Rs.length cR),.own⟩,ownFx KE.t 14 fE Es.length cE (rcells KE Es),ownFx KI.t 4 fD Ds.length cD (rcells KI Ds),ownFx 3 1 fR Rs.length cR (icells Rs)] (.r 1 [a1 4 0 8,a1 8 0 9,a1 11 4 6,a1 15 4 0,a1 17 4 1,aN 19 4 2 6,(21,.callg 264 (fun _=>[.pointer (some ⟨b,0,none⟩),.agg #[.int .i64 1,.int .i64 k.tg,.int .i64 k.tg1,.bool (!h.t.n),.int .i64 pg,.int .i64 0,.int .i64 h.f,.int .i64 h.m,.bool h.t.r,.bool h.t.w,.bool h.t.x,.bool h.t.a,.bool h.t.n,.int .i64 h.t.s]]) (fun _=>.tuple #[]) [(0,(fun _=>⟨b,0,262,trpC k lv fr (.slice fE Es.length cE) (.slice fD Ds.length cD) (.slice fR Rs.length cR),.own⟩)),(1,(fun _=>ownFx KE.t 14 fE Es.length cE (rcells KE Es))),(2,(fun _=>ownFx KI.t 4 fD Ds.length cD (rcells KI Ds))),(3,(fun _=>ownFx 3 1 fR Rs.length cR (icells Rs)))] [(0,(fun E=>⟨b,0,262,trpC k lv fr (.slice (E.f 5) (fill9 Es (whoE k.a pg h)).length (E.b 5)) (.slice (E.f 6) Ds.length (E.b 6)) (.slice (E.f 7) Rs.length (E.b 7)),.own⟩)),(1,(fun _=>noBx)),(2,(fun _=>noBx)),(3,(fun _=>noBx))] 5 [fun E=>OwnP KE.t 14 (E.f 5) (fill9 Es (whoE k.a pg h)).length (E.b 5) (rcells KE (fill9 Es (whoE k.a pg h))),fun E=>OwnP KI.t 4 (E.f 6) Ds.length (E.b 6) (rcells KI Ds),fun E=>OwnP 3 1 (E.f 7) Rs.length (E.b 7) (icells Rs)])] (.fin [] (fun _=>.tuple #[]) [(0,(fun E=>⟨b,0,262,trpC k lv fr (.slice (E.f 5) (fill9 Es (whoE k.a pg h)).length (E.b 5)) (.slice (E.f 6) Ds.length (E.b 6)) (.slice (E.f 7) Rs.length (E.b 7)),.own⟩)),(5,(fun E=>ownFx KE.t 14 (E.f 5) (fill9 Es (whoE k.a pg h)).length (E.b 5) (rcells KE (fill9 Es (whoE k.a pg h))))),(6,(fun E=>ownFx KI.t 4 (E.f 6) Ds.length (E.b 6) (rcells KI Ds))),(7,(fun E=>ownFx 3 1 (E.f 7) Rs.length (E.b 7) (icells Rs)))])) Tryz.func237 rfl hF (⟨fun E W hk hp=>(akeep_any k b lv fr Es Ds Rs fE fD fR cE cD cR W ((hp.2 rfl).self cover4) (whoE k.a pg h) hT he).mono fun e w' h=>mid_post hk hp.1 h,fun E W hk hp=>⟨E.f 5,E.b 5,E.f 6,E.b 6,E.f 7,E.b 7,rfl,hp.2 rfl⟩⟩) rfl (fun _=>by kernel_rfl)
theorem akeepM_any (k:TrC) (b:Nat) (lv fr:Int) (Es:List Ety) (Ds:List Inv) (Rs:List Int) (fE fD fR:Option Addr) (cE cD cR:Nat) (W:World) (hF:TrF k b lv fr Es Ds Rs fE fD fR cE cD cR W) (h:Hit) (hT:mayT Es Ds=true) (he:mayEn (midE k.tg h)=true) :
  Calls Tryz.prog 276 #[.pointer (some ⟨b,0,none⟩),hitV h] W (TrE k b lv fr fE fD fR W (.tuple #[]) (fill9 Es (midE k.tg h)) Ds Rs):=by
 exact calls_ex mixedT [⟨b,0,262,trpC k lv fr (.slice fE Es.length cE) (.slice fD Ds.length cD) (.slice fR Rs.length cR),.own⟩,ownFx KE.t 14 fE Es.length cE (rcells KE Es),ownFx KI.t 4 fD Ds.length cD (rcells KI Ds),ownFx 3 1 fR Rs.length cR (icells Rs)] (.r 1 [aN 1 4 2 6,aN 3 5 0 6] (.r 2 [a1 1 5 5,a1 3 5 4] (.r 3 [a1 4 0 8,a1 6 4 1,a1 8 4 0,aN 9 5 0 6,(11,.callg 264 (fun _=>[.pointer (some ⟨b,0,none⟩),.agg #[.int .i64 2,.int .i64 k.tg,.int .i64 0,.bool true,.int .i64 h.m,.int .i64 0,.int .i64 h.f,.int .i64 0,.bool h.t.r,.bool h.t.w,.bool h.t.x,.bool h.t.a,.bool false,.int .i64 0]]) (fun _=>.tuple #[]) [(0,(fun _=>⟨b,0,262,trpC k lv fr (.slice fE Es.length cE) (.slice fD Ds.length cD) (.slice fR Rs.length cR),.own⟩)),(1,(fun _=>ownFx KE.t 14 fE Es.length cE (rcells KE Es))),(2,(fun _=>ownFx KI.t 4 fD Ds.length cD (rcells KI Ds))),(3,(fun _=>ownFx 3 1 fR Rs.length cR (icells Rs)))] [(0,(fun E=>⟨b,0,262,trpC k lv fr (.slice (E.f 6) (fill9 Es (midE k.tg h)).length (E.b 6)) (.slice (E.f 7) Ds.length (E.b 7)) (.slice (E.f 8) Rs.length (E.b 8)),.own⟩)),(1,(fun _=>noBx)),(2,(fun _=>noBx)),(3,(fun _=>noBx))] 6 [fun E=>OwnP KE.t 14 (E.f 6) (fill9 Es (midE k.tg h)).length (E.b 6) (rcells KE (fill9 Es (midE k.tg h))),fun E=>OwnP KI.t 4 (E.f 7) Ds.length (E.b 7) (rcells KI Ds),fun E=>OwnP 3 1 (E.f 8) Rs.length (E.b 8) (icells Rs)])] (.fin [] (fun _=>.tuple #[]) [(0,(fun E=>⟨b,0,262,trpC k lv fr (.slice (E.f 6) (fill9 Es (midE k.tg h)).length (E.b 6)) (.slice (E.f 7) Ds.length (E.b 7)) (.slice (E.f 8) Rs.length (E.b 8)),.own⟩)),(6,(fun E=>ownFx KE.t 14 (E.f 6) (fill9 Es (midE k.tg h)).length (E.b 6) (rcells KE (fill9 Es (midE k.tg h))))),(7,(fun E=>ownFx KI.t 4 (E.f 7) Ds.length (E.b 7) (rcells KI Ds))),(8,(fun E=>ownFx 3 1 (E.f 8) Rs.length (E.b 8) (icells Rs)))])))) Tryz.func276 rfl hF (⟨fun E W hk hp=>(akeep_any k b lv fr Es Ds Rs fE fD fR cE cD cR W ((hp.2 rfl).self cover4) (midE k.tg h) hT he).mono fun e w' h=>mid_post hk hp.1 h,fun E W hk hp=>⟨E.f 6,E.b 6,E.f 7,E.b 7,E.f 8,E.b 8,rfl,hp.2 rfl⟩⟩) rfl (fun _=>by kernel_rfl)
theorem akeepT_any (k:TrC) (b:Nat) (lv fr:Int) (Es:List Ety) (Ds:List Inv) (Rs:List Int) (fE fD fR:Option Addr) (cE cD cR:Nat) (W:World) (hF:TrF k b lv fr Es Ds Rs fE fD fR cE cD cR W) (pg n f:Int) (hT:mayT Es Ds=true) (he:mayEn ⟨3,k.tg,k.tg1,false,pg,n,f,0,atr0⟩=true) :
  Calls Tryz.prog 283 #[.pointer (some ⟨b,0,none⟩),.int .i64 pg,.int .i64 n,.int .i64 f] W (TrE k b lv fr fE fD fR W (.tuple #[]) (fill9 Es ⟨3,k.tg,k.tg1,false,pg,n,f,0,atr0⟩) Ds Rs):=by
 exact calls_ex mixedT [⟨b,0,262,trpC k lv fr (.slice fE Es.length cE) (.slice fD Ds.length cD) (.slice fR Rs.length cR),.own⟩,ownFx KE.t 14 fE Es.length cE (rcells KE Es),ownFx KI.t 4 fD Ds.length cD (rcells KI Ds),ownFx 3 1 fR Rs.length cR (icells Rs)] (.r 0 [a1 4 0 8,a1 8 0 9,(13,.callg 264 (fun _=>[.pointer (some ⟨b,0,none⟩),.agg #[.int .i64 3,.int .i64 k.tg,.int .i64 k.tg1,.bool false,.int .i64 pg,.int .i64 n,.int .i64 f,.int .i64 0,.bool false,.bool false,.bool false,.bool false,.bool false,.int .i64 0]]) (fun _=>.tuple #[]) [(0,(fun _=>⟨b,0,262,trpC k lv fr (.slice fE Es.length cE) (.slice fD Ds.length cD) (.slice fR Rs.length cR),.own⟩)),(1,(fun _=>ownFx KE.t 14 fE Es.length cE (rcells KE Es))),(2,(fun _=>ownFx KI.t 4 fD Ds.length cD (rcells KI Ds))),(3,(fun _=>ownFx 3 1 fR Rs.length cR (icells Rs)))] [(0,(fun E=>⟨b,0,262,trpC k lv fr (.slice (E.f 4) (fill9 Es ⟨3,k.tg,k.tg1,false,pg,n,f,0,atr0⟩).length (E.b 4)) (.slice (E.f 5) Ds.length (E.b 5)) (.slice (E.f 6) Rs.length (E.b 6)),.own⟩)),(1,(fun _=>noBx)),(2,(fun _=>noBx)),(3,(fun _=>noBx))] 4 [fun E=>OwnP KE.t 14 (E.f 4) (fill9 Es ⟨3,k.tg,k.tg1,false,pg,n,f,0,atr0⟩).length (E.b 4) (rcells KE (fill9 Es ⟨3,k.tg,k.tg1,false,pg,n,f,0,atr0⟩)),fun E=>OwnP KI.t 4 (E.f 5) Ds.length (E.b 5) (rcells KI Ds),fun E=>OwnP 3 1 (E.f 6) Rs.length (E.b 6) (icells Rs)])] (.fin [] (fun _=>.tuple #[]) [(0,(fun E=>⟨b,0,262,trpC k lv fr (.slice (E.f 4) (fill9 Es ⟨3,k.tg,k.tg1,false,pg,n,f,0,atr0⟩).length (E.b 4)) (.slice (E.f 5) Ds.length (E.b 5)) (.slice (E.f 6) Rs.length (E.b 6)),.own⟩)),(4,(fun E=>ownFx KE.t 14 (E.f 4) (fill9 Es ⟨3,k.tg,k.tg1,false,pg,n,f,0,atr0⟩).length (E.b 4) (rcells KE (fill9 Es ⟨3,k.tg,k.tg1,false,pg,n,f,0,atr0⟩)))),(5,(fun E=>ownFx KI.t 4 (E.f 5) Ds.length (E.b 5) (rcells KI Ds))),(6,(fun E=>ownFx 3 1 (E.f 6) Rs.length (E.b 6) (icells Rs)))])) Tryz.func283 rfl hF (⟨fun E W hk hp=>(akeep_any k b lv fr Es Ds Rs fE fD fR cE cD cR W ((hp.2 rfl).self cover4) ⟨3,k.tg,k.tg1,false,pg,n,f,0,atr0⟩ hT he).mono fun e w' h=>mid_post hk hp.1 h,fun E W hk hp=>⟨E.f 4,E.b 4,E.f 5,E.b 5,E.f 6,E.b 6,rfl,hp.2 rfl⟩⟩) rfl (fun _=>by kernel_rfl)
theorem anote_any (k:TrC) (b:Nat) (lv fr:Int) (sE sD:Value) (Rs M:List Int) (fR g:Option Addr) (cR d:Nat) (W:World) (hF:Fits (b :: (fR.map (·.block)).toList) W [⟨b,0,262,trpC k lv fr sE sD (.slice fR Rs.length cR),.own⟩,ownFx 3 1 fR Rs.length cR (icells Rs)] W)
  (hM:∀ w,Keep (b :: (fR.map (·.block)).toList) W w→OwnP 3 1 g M.length d (icells M) w) (hl:Rs.length+M.length≤1000000) :
  Calls Tryz.prog 275 #[.pointer (some ⟨b,0,none⟩),.slice g M.length d] W (RowEnd (b :: (fR.map (·.block)).toList) W b 262 (trpC k lv fr sE sD) (.tuple #[]) (Rs++M)):=by
 exact calls_ex mixedT [⟨b,0,262,trpC k lv fr sE sD (.slice fR Rs.length cR),.own⟩,ownFx 3 1 fR Rs.length cR (icells Rs)] (.r 0 [a1 4 0 14,(6,.opc (.call ⟨.builtin .append,#[(.tmp 8),(.tmp 9)],#[44,44]⟩) (fun _=>[.slice fR Rs.length cR,.slice g M.length d]) (fun E=>.slice (E.f 2) (Rs++M).length (E.b 2)) [(1,(fun _=>ownFx 3 1 fR Rs.length cR (icells Rs)))] [(1,fun _=>noBx)] 2 [fun E=>OwnP 3 1 (E.f 2) (Rs++M).length (E.b 2) (icells (Rs++M))]),a1 9 0 14] (.fin [] (fun _=>.tuple #[]) [(0,(fun E=>⟨b,0,262,trpC k lv fr sE sD (.slice (E.f 2) (Rs++M).length (E.b 2)),.own⟩)),(2,(fun E=>ownFx 3 1 (E.f 2) (Rs++M).length (E.b 2) (icells (Rs++M))))])) Tryz.func275 rfl hF (⟨fun E W ρ o ho hx hk hp=>pushI_opc ho hx hk (hp.1 _ (List.mem_singleton.2 rfl)) (hM W hk) hl,fun E W hk hp=>⟨E.f 2,E.b 2,rfl,hp.2 rfl⟩⟩) rfl (fun _=>by kernel_rfl)
end Go.Proofs.YtlgpdbgingjpbaaGreat
