/- Stage 14: the landed package access: stage 2,tables,leaves: contracts. -/
import Derived.Test.YtlgpdbgingjpbaaGreatZc
import Derived.Test.YtlgpdbgingjpbaaGreatPc
set_option linter.all false
namespace Go.Proofs.YtlgpdbgingjpbaaGreat
open Go.ChangeShapes Go.WideShapes Go.ChangeAt Go.RowKit Go.Deep
structure TrOk (k:TrC):Prop where
 hM:okM k.l=true
 hlc:k.l≤k.c
 on2:k.on2=true
 t0:0≤k.tf
 t1:k.tf≤4095
 o0:0≤k.of1
 o1:k.of1≤4095
 g0:0≤k.tg
 g1:k.tg≤15
 h0:0≤k.tg1
 h1:k.tg1≤15
 p0:0≤k.pg
 p1:k.pg≤4095
 ac:numB k.acc 2=true
theorem midE_may {k:TrC} (ok:TrOk k) {h:Hit} (m0:0≤h.m) (m1:h.m≤4095) (f0:0≤h.f) (f1:h.f * 8+8≤k.l):mayEn (midE k.tg h)=true:=by
 have hl:=okM_true ok.hM
 have g0:=ok.g0
 have g1:=ok.g1
 rw [mayEn_two]
 unfold numE kindE midE numB
 simp
 omega
theorem tabE_may {k:TrC} (ok:TrOk k) {lv f:Int} (l0:1≤lv) (l1:lv≤3) (f0:0≤f) (f1:f * 8+8≤k.l):mayEn (tabE k.a k.pg lv f)=true:=by
 have hl:=okM_true ok.hM
 have g0:=ok.g0
 have g1:=ok.g1
 have h0:=ok.h0
 have h1:=ok.h1
 have p0:=ok.p0
 have p1:=ok.p1
 have hlv:lv=1∨lv=2∨lv=3:=by omega
 rw [mayEn_two]
 unfold numE kindE tabE numB abvP
 have he:eqA atr0 atr0=true:=eqA_self _
 rcases hlv with rfl | rfl | rfl
 ·dsimp only
  rw [show cov (1 - 1)=512 from rfl]
  simp [he,show atr0.s=0 from rfl]
  omega
 ·dsimp only
  rw [show cov (2 - 1)=64 from rfl]
  simp [he,show atr0.s=0 from rfl]
  omega
 ·dsimp only
  rw [show cov (3 - 1)=8 from rfl]
  simp [he,show atr0.s=0 from rfl]
  omega
theorem whoE_may {k:TrC} (ok:TrOk k) {h:Hit} (m0:0≤h.m) (m1:h.m≤4095) (f0:0≤h.f) (f1:h.f * 8+8≤k.l) (hs:h.t.s=0):mayEn (whoE k.a k.pg h)=true:=by
 have hl:=okM_true ok.hM
 have g0:=ok.g0
 have g1:=ok.g1
 have h0:=ok.h0
 have h1:=ok.h1
 have p0:=ok.p0
 have p1:=ok.p1
 rw [mayEn_two]
 unfold numE kindE whoE numB
 simp [hs]
 omega
theorem reach_good {k:TrC} (ok:TrOk k) {Ds:List Inv} {s:WkS} {mid acc:Int} (hT:mayT s.E Ds=true) (hG:GoodE k.l s.E) (m0:0≤mid) (m1:mid≤4095) {r:LnR} (hr:reachL k.a s mid acc=r) :
  mayT r.2.E Ds=true∧GoodE k.l r.2.E∧r.2.R.length≤s.R.length+4∧(r.1.2.k=0→0≤r.1.1.f∧r.1.1.f * 8+8≤k.l∧r.1.1.m=mid):=by
 unfold reachL at hr
 split at hr
 ·rename_i hc
  subst hr
  refine ⟨hT,hG,Nat.le_add_right _ _,fun _=>?_⟩
  have h1:=(placeE_at s.E 0 (by decide) (show 0≤placeE (isMd k.a.tg mid acc) s.E 0 from hc.2)).2
  have h2:(mid9 s.E k.a.tg mid acc).toNat < s.E.length:=by
   have h0:=hc.2
   unfold mid9 at h0 ⊢
   omega
  have h3:s.E.getD (mid9 s.E k.a.tg mid acc).toNat ent0=s.E[(mid9 s.E k.a.tg mid acc).toNat]:=by simp [h2]
  simp only
  rw [h3]
  have h4:=hG _ (List.getElem_mem h2)
  exact ⟨h4.1,h4.2,trivial⟩
 ·subst hr
  have hs:=midD_short k.l k.X k.tf mid acc ok.t0 m0
  have hf:=midD_frame k.l k.X k.tf mid acc ok.t0 m0
  have hn:=(mid_n k.l k.X k.tf mid acc).2
  unfold reachM
  simp only
  generalize midD k.l k.X true k.tf mid acc=m at *
  refine ⟨?_,?_,by simp only [List.length_append];omega,fun h=>⟨(hf h).1,(hf h).2,hn h⟩⟩
  ·split
   ·rename_i h
    exact mayT_fill hT (midE_may ok (by rw [hn h.2];exact m0) (by rw [hn h.2];exact m1) (hf h.2).1 (hf h.2).2)
   ·exact hT
  ·split
   ·rename_i h
    exact hG.fill (hf h.2).1 (hf h.2).2
   ·exact hG
theorem enter_good {k:TrC} (ok:TrOk k) {Ds:List Inv} {lv0 fr0 lv:Int} {r:LnR} (l0:0≤lv) (l1:lv≤3) (hT:mayT r.2.E Ds=true) (hG:GoodE k.l r.2.E) (hf:r.1.2.k=0→0≤r.1.1.f∧r.1.1.f * 8+8≤k.l) {z:EnR} (hz:enterK k.a k.pg lv0 fr0 lv r=z) :
  mayT z.2.E Ds=true∧GoodE k.l z.2.E∧z.2.R=r.2.R∧(z.1.1.k=0→z.1.2.1=lv∧0≤z.1.2.2∧z.1.2.2 * 8+8≤k.l):=by
 subst hz
 unfold enterK
 split
 ·rename_i h
  exact ⟨hT,hG,rfl,fun h2=>absurd h2 h⟩
 ·rename_i h
  have hf:=hf (Decidable.not_not.1 h)
  refine ⟨?_,?_,?_,fun _=>⟨rfl,hf.1,hf.2⟩⟩
  ·simp only
   split
   ·rename_i hq
    exact mayT_fill hT (tabE_may ok (by omega) l1 hf.1 hf.2)
   ·exact hT
  ·simp only
   split
   ·exact hG.fill hf.1 hf.2
   ·exact hG
  ·simp only
   split<;>rfl
theorem bp_and (b:Bool) (x:Int):(b&&decide (x > 0))=decide (b=true∧0 < x):=by
 cases b<;>by_cases h:0 < x<;>simp [h]
theorem begin_used {k:TrC} {s:WkS} {Ds:List Inv} (hT:mayT s.E Ds=true) (h6:is6 k.tg k.tg1 k.pg=true) {q:Ety×Int} (hq:deepR s.E Ds k.tg k.tg1 k.pg=q) :
  beginL k.a k.pg s=if (k.pu&&(q.2==0))=true then ((flt0,(q.1.lv,q.1.fr)),s) else enterK k.a k.pg 0 0 0 (reachL k.a s k.of1 0):=by
 subst hq
 unfold beginL
 rcases look6 hT h6 with ⟨h1,h2⟩ | ⟨i,y,h1,h2,h3⟩
 ·rw [h1,h2,if_neg (by rintro ⟨_,h⟩;exact absurd h (by decide)),if_neg (by simp)]
 ·have hy:s.E.getD (i:Int).toNat ent0=y:=by rw [Int.toNat_natCast,List.getD_eq_getElem?_getD,h1];rfl
  rw [h2,h3,hy]
  by_cases hu:k.pu=true
  ·rw [if_pos ⟨hu,by omega⟩,if_pos (by rw [hu];rfl)]
  ·rw [if_neg (fun h=>hu h.1),if_neg (by simp [hu])]
theorem is_num {k:TrC} (ok:TrOk k):is6 k.tg k.tg1 k.pg=true∧is4 k.tg k.tg1 k.pg k.acc=true:=by
 have h1:numB k.tg 15=true:=numB_iff.2 ⟨ok.g0,ok.g1⟩
 have h2:numB k.tg1 15=true:=numB_iff.2 ⟨ok.h0,ok.h1⟩
 have h3:numB k.pg 4095=true:=numB_iff.2 ⟨ok.p0,ok.p1⟩
 unfold is6 is4
 rw [h1,h2,h3,ok.ac]
 exact ⟨rfl,rfl⟩
theorem areach_any (k:TrC) (b:Nat) (lv fr:Int) (Es:List Ety) (Ds:List Inv) (Rs:List Int) (fE fD fR:Option Addr) (cE cD cR:Nat) (W:World) (hF:TrF k b lv fr Es Ds Rs fE fD fR cE cD cR W) (mid acc:Int) (ok:TrOk k) (hX:∀ w,Keep (ft4 b fE fD fR) W w→WordsAt w k.f k.l k.X) (hT:mayT Es Ds=true) (hG:GoodE k.l Es) (hR:Rs.length≤90000) (m0:0≤mid) (m1:mid≤4095) (ha:numB acc 2=true) {z:LnR} (hz:reachL k.a ⟨Es,Rs⟩ mid acc=z) :
  Calls Tryz.prog 257 #[.pointer (some ⟨b,0,none⟩),.int .i64 mid,.int .i64 acc] W (TrE k b lv fr fE fD fR W (.tuple #[hitV z.1.1,fltV z.1.2]) z.2.E Ds z.2.R):=by
 have h5:is5 k.tg mid acc=true:=by
  unfold is5
  rw [numB_iff.2 ⟨ok.g0,ok.g1⟩,numB_iff.2 ⟨m0,m1⟩,ha]
  rfl
 obtain ⟨⟨qe,qn⟩,hq⟩:∃ q,firstR Es Ds 2 k.tg 0 mid acc=q:=⟨_,rfl⟩
 rw [reach_used hT h5 hq] at hz
 have hmd:=midD_frame k.l k.X k.tf mid acc ok.t0 m0
 have hsh:=midD_short k.l k.X k.tf mid acc ok.t0 m0
 have hmm:=(mid_n k.l k.X k.tf mid acc).2
 have HMI:∀ w,Keep (ft4 b fE fD fR) W w→Calls Tryz.prog 274 #[.agg #[.slice k.f k.l k.c],.agg #[.bool k.on2,.int .i64 k.tf,.int .i64 k.tg],.int .i64 mid,.int .i64 acc] w (Walk4End w (midD k.l k.X true k.tf mid acc,0)):=fun w hk=>by
  have h:=nestMidC k.f k.l k.c k.X k.on2 k.tf k.tg mid acc w (by have:=okM_true ok.hM;omega) ok.hlc (hX w hk)
  rw [show midA k.l k.X k.on2 k.tf mid acc=(midD k.l k.X true k.tf mid acc,0) from by rw [ok.on2];exact midA_yes (mayN_iff.2 ⟨ok.hM,⟨ok.t0,ok.t1⟩,⟨m0,m1⟩,numB_iff.1 ha⟩)] at h
  exact h
 generalize midD k.l k.X true k.tf mid acc=m at *
 obtain ⟨hm,fm,Rm⟩:=m
 unfold reachM at hz
 simp only at hmd hsh hmm hz
 have hmE:fm.k=0→mayEn (midE k.tg hm)=true:=fun h=>midE_may ok (by rw [hmm h];exact m0) (by rw [hmm h];exact m1) (hmd h).1 (hmd h).2
 obtain ⟨q0,hq0⟩:∃ b,(k.pu&&(qn==0))=b:=⟨_,rfl⟩
 obtain ⟨q1,hq1⟩:∃ b,(k.pm)=b:=⟨_,rfl⟩
 obtain ⟨q2,hq2⟩:∃ b,(fm.k != 0)=b:=⟨_,rfl⟩
 exact calls_ex mixedT [⟨b,0,262,trpC k lv fr (.slice fE Es.length cE) (.slice fD Ds.length cD) (.slice fR Rs.length cR),.own⟩,ownFx KE.t 14 fE Es.length cE (rcells KE Es),ownFx KI.t 4 fD Ds.length cD (rcells KI Ds),ownFx 3 1 fR Rs.length cR (icells Rs)] (.r 1 [(5,.callg 273 (fun _=>[.pointer (some ⟨b,0,none⟩),.int .i64 mid,.int .i64 acc]) (fun _=>.tuple #[entV qe,.bool q0]) [(0,(fun _=>⟨b,0,262,trpC k lv fr (.slice fE Es.length cE) (.slice fD Ds.length cD) (.slice fR Rs.length cR),.own⟩)),(1,(fun _=>ownFx KE.t 14 fE Es.length cE (rcells KE Es))),(2,(fun _=>ownFx KI.t 4 fD Ds.length cD (rcells KI Ds)))] [] 6 []),aN 10 6 0 14] (.split (q0) (.r 3 [a1 1 6 6,aN 4 6 8 6,aN 7 4 0 9,aN 8 5 0 5] (.fin [(4,0,9),(5,0,5)] (fun _=>.tuple #[.agg #[.int .i64 qe.fr,.int .i64 mid,.bool qe.t.r,.bool qe.t.w,.bool qe.t.x,.bool qe.t.a,.bool qe.t.n,.int .i64 qe.t.s,.int .i64 0],fltV flt0]) [(0,(fun _=>⟨b,0,262,trpC k lv fr (.slice fE Es.length cE) (.slice fD Ds.length cD) (.slice fR Rs.length cR),.own⟩)),(1,(fun _=>ownFx KE.t 14 fE Es.length cE (rcells KE Es))),(2,(fun _=>ownFx KI.t 4 fD Ds.length cD (rcells KI Ds))),(3,(fun _=>ownFx 3 1 fR Rs.length cR (icells Rs)))])) (.r 4 [a1 3 0 10,aN 7 0 11 3,(10,.callg 274 (fun _=>[.agg #[.slice k.f k.l k.c],.agg #[.bool k.on2,.int .i64 k.tf,.int .i64 k.tg],.int .i64 mid,.int .i64 acc]) (fun E=>.tuple #[hitV hm,fltV fm,.slice (E.f 7) Rm.length (E.b 7),.int .i64 0]) [] [] 7 [fun E=>OwnP 3 1 (E.f 7) Rm.length (E.b 7) (icells Rm)]),aN 18 8 0 9,aN 19 9 0 5] (.r 5 [(2,.callg 275 (fun E=>[.pointer (some ⟨b,0,none⟩),.slice (E.f 7) Rm.length (E.b 7)]) (fun _=>.tuple #[]) [(0,(fun _=>⟨b,0,262,trpC k lv fr (.slice fE Es.length cE) (.slice fD Ds.length cD) (.slice fR Rs.length cR),.own⟩)),(3,(fun _=>ownFx 3 1 fR Rs.length cR (icells Rs))),(7,(fun E=>ownFx 3 1 (E.f 7) Rm.length (E.b 7) (icells Rm)))] [(0,(fun E=>⟨b,0,262,trpC k lv fr (.slice fE Es.length cE) (.slice fD Ds.length cD) (.slice (E.f 10) (Rs++Rm).length (E.b 10)),.own⟩)),(3,(fun _=>noBx))] 10 [fun E=>OwnP 3 1 (E.f 10) (Rs++Rm).length (E.b 10) (icells (Rs++Rm))])] (.r 6 [a1 5 0 4,(6,.rw (fun _=>.bool k.pm) (fun _=>.bool q1)),aN 7 9 0 5,(8,.call 236 (fun _=>[fltV fm]) (fun _=>.bool q2))] (.split (q1&&(!q2)) (.r 7 [aN 3 8 0 9,(4,.callg 276 (fun _=>[.pointer (some ⟨b,0,none⟩),hitV hm]) (fun _=>.tuple #[]) [(0,(fun E=>⟨b,0,262,trpC k lv fr (.slice fE Es.length cE) (.slice fD Ds.length cD) (.slice (E.f 10) (Rs++Rm).length (E.b 10)),.own⟩)),(1,(fun _=>ownFx KE.t 14 fE Es.length cE (rcells KE Es))),(2,(fun _=>ownFx KI.t 4 fD Ds.length cD (rcells KI Ds))),(10,(fun E=>ownFx 3 1 (E.f 10) (Rs++Rm).length (E.b 10) (icells (Rs++Rm))))] [(0,(fun E=>⟨b,0,262,trpC k lv fr (.slice (E.f 11) (fill9 Es (midE k.tg hm)).length (E.b 11)) (.slice (E.f 12) Ds.length (E.b 12)) (.slice (E.f 13) (Rs++Rm).length (E.b 13)),.own⟩)),(1,(fun _=>noBx)),(2,(fun _=>noBx)),(10,(fun _=>noBx))] 11 [fun E=>OwnP KE.t 14 (E.f 11) (fill9 Es (midE k.tg hm)).length (E.b 11) (rcells KE (fill9 Es (midE k.tg hm))),fun E=>OwnP KI.t 4 (E.f 12) Ds.length (E.b 12) (rcells KI Ds),fun E=>OwnP 3 1 (E.f 13) (Rs++Rm).length (E.b 13) (icells (Rs++Rm))])] (.r 8 [aN 0 8 0 9,aN 1 9 0 5,aN 2 4 0 9,aN 3 5 0 5] (.fin [(4,0,9),(5,0,5)] (fun _=>.tuple #[hitV hm,fltV fm]) [(0,(fun E=>⟨b,0,262,trpC k lv fr (.slice (E.f 11) (fill9 Es (midE k.tg hm)).length (E.b 11)) (.slice (E.f 12) Ds.length (E.b 12)) (.slice (E.f 13) (Rs++Rm).length (E.b 13)),.own⟩)),(11,(fun E=>ownFx KE.t 14 (E.f 11) (fill9 Es (midE k.tg hm)).length (E.b 11) (rcells KE (fill9 Es (midE k.tg hm))))),(12,(fun E=>ownFx KI.t 4 (E.f 12) Ds.length (E.b 12) (rcells KI Ds))),(13,(fun E=>ownFx 3 1 (E.f 13) (Rs++Rm).length (E.b 13) (icells (Rs++Rm))))]))) (.r 8 [aN 0 8 0 9,aN 1 9 0 5,aN 2 4 0 9,aN 3 5 0 5] (.fin [(4,0,9),(5,0,5)] (fun _=>.tuple #[hitV hm,fltV fm]) [(0,(fun E=>⟨b,0,262,trpC k lv fr (.slice fE Es.length cE) (.slice fD Ds.length cD) (.slice (E.f 10) (Rs++Rm).length (E.b 10)),.own⟩)),(1,(fun _=>ownFx KE.t 14 fE Es.length cE (rcells KE Es))),(2,(fun _=>ownFx KI.t 4 fD Ds.length cD (rcells KI Ds))),(10,(fun E=>ownFx 3 1 (E.f 10) (Rs++Rm).length (E.b 10) (icells (Rs++Rm))))])))))))) Tryz.func257 rfl hF (⟨fun E W hk hp=>(amid_any k _ _ b _ _ _ _ Es Ds _ qe qn mid acc W (own_rows (hp.1 _ (List.mem_cons_of_mem _ (List.mem_cons_self ..)))) (own_rows (hp.1 _ (List.mem_cons_of_mem _ (List.mem_cons_of_mem _ (List.mem_singleton.2 rfl))))) (by have:=mayT_len hT;omega) (by have:=mayT_len hT;omega) (own_room (hp.1 _ (List.mem_cons_of_mem _ (List.mem_cons_self ..))).2.2.1).1 (own_room (hp.1 _ (List.mem_cons_of_mem _ (List.mem_cons_self ..))).2.2.1).2.1 hq (((hp.2 rfl).take 1).ro)).mono fun _ _ hJ=>GPost.quiet hk ⟨hJ.1.trans (by rw [hq0]),hJ.2⟩,fun hS3=>fun E W hk hp=>by subst hq0 hq1 hq2;(try simp only [bq_and,bp_and,decide_eq_true_eq,decide_eq_false_iff_not,bne_iff_ne,bne_eq_false_iff_eq,beq_iff_eq,beq_eq_false_iff_ne,ne_eq] at hS3);simp only [TrC.a,hS3,ne_eq,not_true_eq_false,not_false_eq_true,if_true,if_false,Bool.false_eq_true] at hz;subst hz;exact ⟨fE,cE,fD,cD,fR,cR,rfl,hp.2 rfl⟩,fun hS3=>⟨fun E W hk _=>(HMI W hk).mono fun e w' h=>walk4_post hk rfl h,fun E W hk hp=>(anote_any k b _ _ _ _ Rs Rm fR (E.f 7) cR (E.b 7) W (((hp.2 rfl).take 2).self cover2) (fun w hw=>((hp.2 rfl).stay hw 2 rfl on2).2.2.1) (by omega)).mono fun e w' h=>h.post hk hp.1,fun _=>congrArg Value.bool hq1,fun _ W _=>(afault_any _ W).mono fun _ _ hJ=>⟨hJ.1.trans (by rw [hq2]),hJ.2⟩,fun hS4=>⟨fun E W hk hp=>(akeepM_any k b lv fr Es Ds (Rs++Rm) fE fD (E.f 10) cE cD (E.b 10) W ((hp.2 rfl).self cover4) hm hT (hmE (by subst hq0 hq1 hq2;have h:=hS4;rw [bq_and] at h;exact (of_decide_eq_true h).2))).mono fun e w' h=>mid_post hk hp.1 h,fun E W hk hp=>by subst hq0 hq1 hq2;(try simp only [bq_and,bp_and,decide_eq_true_eq,decide_eq_false_iff_not,bne_iff_ne,bne_eq_false_iff_eq,beq_iff_eq,beq_eq_false_iff_ne,ne_eq] at hS3 hS4);simp only [TrC.a,hS3,hS4,ne_eq,not_true_eq_false,not_false_eq_true,if_true,if_false,Bool.false_eq_true] at hz;subst hz;exact ⟨E.f 11,E.b 11,E.f 12,E.b 12,E.f 13,E.b 13,rfl,hp.2 rfl⟩⟩,fun hS4=>fun E W hk hp=>by subst hq0 hq1 hq2;(try simp only [bq_and,bp_and,decide_eq_true_eq,decide_eq_false_iff_not,bne_iff_ne,bne_eq_false_iff_eq,beq_iff_eq,beq_eq_false_iff_ne,ne_eq] at hS3 hS4);simp only [TrC.a,hS3,hS4,ne_eq,not_true_eq_false,not_false_eq_true,if_true,if_false,Bool.false_eq_true] at hz;subst hz;exact ⟨fE,cE,fD,cD,E.f 10,E.b 10,rfl,hp.2 rfl⟩⟩⟩) rfl (fun _=>by cases q1<;>kernel_rfl)
theorem awin_any (k:TrC) (lv fr:Int) (b:Nat) (sE sD sR:Value) (n:Int) (w:World) (p0:0≤k.pg) (n0:0≤n) (n1:n≤3) (hb:Fits [] w [⟨b,0,262,trpC k lv fr sE sD sR,.row⟩] w) :
  Calls Tryz.prog 284 #[.pointer (some ⟨b,0,none⟩),.int .i64 n] w fun e w'=>e=.returned (.int .i64 (k.pg % cov n))∧Below w.heap.size w w':=by
 have:n=0∨n=1∨n=2∨n=3:=by omega
 rcases this with rfl | rfl | rfl | rfl
 ·exact calls_ex mixedT [⟨b,0,262,trpC k lv fr sE sD sR,.row⟩] (.r 1 [a1 3 0 18] (.fin [] (fun _=>.int .i64 (Int.tmod k.pg 512)) [])) Tryz.func284 rfl hb (fun _ _ h _=>⟨by rw [show cov 0=512 from rfl,← Int.tmod_eq_emod_of_nonneg p0]<;>rfl,h.below⟩) rfl (fun _=>by kernel_rfl)
 ·exact calls_ex mixedT [⟨b,0,262,trpC k lv fr sE sD sR,.row⟩] (.r 1 [a1 3 0 18] (.fin [] (fun _=>.int .i64 (Int.tmod k.pg 64)) [])) Tryz.func284 rfl hb (fun _ _ h _=>⟨by rw [show cov 1=64 from rfl,← Int.tmod_eq_emod_of_nonneg p0]<;>rfl,h.below⟩) rfl (fun _=>by kernel_rfl)
 ·exact calls_ex mixedT [⟨b,0,262,trpC k lv fr sE sD sR,.row⟩] (.r 1 [a1 3 0 18] (.fin [] (fun _=>.int .i64 (Int.tmod k.pg 8)) [])) Tryz.func284 rfl hb (fun _ _ h _=>⟨by rw [show cov 2=8 from rfl,← Int.tmod_eq_emod_of_nonneg p0]<;>rfl,h.below⟩) rfl (fun _=>by kernel_rfl)
 ·exact calls_ex mixedT [⟨b,0,262,trpC k lv fr sE sD sR,.row⟩] (.r 1 [a1 3 0 18] (.fin [] (fun _=>.int .i64 (Int.tmod k.pg 1)) [])) Tryz.func284 rfl hb (fun _ _ h _=>⟨by rw [show cov 3=1 from rfl,← Int.tmod_eq_emod_of_nonneg p0]<;>rfl,h.below⟩) rfl (fun _=>by kernel_rfl)
theorem alook_any (k:TrC) (b:Nat) (lv fr:Int) (Es:List Ety) (Ds:List Inv) (Rs:List Int) (fE fD fR:Option Addr) (cE cD cR:Nat) (W:World) (hF:TrF k b lv fr Es Ds Rs fE fD fR cE cD cR W) (ok:TrOk k) (hX:∀ w,Keep (ft4 b fE fD fR) W w→WordsAt w k.f k.l k.X) (l0:0≤lv) (l1:lv≤3) (f0:0≤fr) (f1:fr * 8+8≤k.l) (hR:Rs.length≤90000) :
  Calls Tryz.prog 261 #[.pointer (some ⟨b,0,none⟩)] W (TrE k b lv fr fE fD fR W (dscV (tblD k.X 1 lv fr k.pg)) Es Ds (Rs++[fr])):=by
 have htb:tableA k.l k.X 1 lv fr k.pg=((tblD k.X 1 lv fr k.pg),0):=by
  unfold tableA
  rw [ok.hM,placeB_iff.2 ⟨Or.inl rfl,l0,l1⟩,numB_iff.2 ⟨ok.p0,ok.p1⟩,numB_iff.2 ⟨f0,by omega⟩]
  rfl
 exact calls_ex mixedT [⟨b,0,262,trpC k lv fr (.slice fE Es.length cE) (.slice fD Ds.length cD) (.slice fR Rs.length cR),.own⟩,ownFx KE.t 14 fE Es.length cE (rcells KE Es),ownFx KI.t 4 fD Ds.length cD (rcells KI Ds),ownFx 3 1 fR Rs.length cR (icells Rs)] (.r 1 [a1 6 0 20,(8,.callg 275 (fun E=>[.pointer (some ⟨b,0,none⟩),.slice (some ⟨E.b 5,0,none⟩) 1 1]) (fun _=>.tuple #[]) [(0,(fun _=>⟨b,0,262,trpC k lv fr (.slice fE Es.length cE) (.slice fD Ds.length cD) (.slice fR Rs.length cR),.own⟩)),(3,(fun _=>ownFx 3 1 fR Rs.length cR (icells Rs))),(5,(fun E=>⟨E.b 5,0,3,[.int .i64 fr],.own⟩))] [(0,(fun E=>⟨b,0,262,trpC k lv fr (.slice fE Es.length cE) (.slice fD Ds.length cD) (.slice (E.f 6) (Rs++[fr]).length (E.b 6)),.own⟩)),(3,(fun _=>noBx))] 6 [fun E=>OwnP 3 1 (E.f 6) (Rs++[fr]).length (E.b 6) (icells (Rs++[fr]))])] (.r 2 [a1 4 0 10,a1 8 0 21,a1 12 0 20,a1 16 0 18,(17,.call 282 (fun _=>[.agg #[.slice k.f k.l k.c],.int .i64 1,.int .i64 lv,.int .i64 fr,.int .i64 k.pg]) (fun _=>.tuple #[dscV (tblD k.X 1 lv fr k.pg),.int .i64 0])),aN 22 7 0 9] (.r 3 [aN 0 7 0 9,aN 1 4 0 9] (.fin [(4,0,9)] (fun _=>dscV (tblD k.X 1 lv fr k.pg)) [(0,(fun E=>⟨b,0,262,trpC k lv fr (.slice fE Es.length cE) (.slice fD Ds.length cD) (.slice (E.f 6) (Rs++[fr]).length (E.b 6)),.own⟩)),(1,(fun _=>ownFx KE.t 14 fE Es.length cE (rcells KE Es))),(2,(fun _=>ownFx KI.t 4 fD Ds.length cD (rcells KI Ds))),(6,(fun E=>ownFx 3 1 (E.f 6) (Rs++[fr]).length (E.b 6) (icells (Rs++[fr]))))])))) Tryz.func261 rfl hF (⟨fun E W hk hp=>(anote_any k b _ _ _ _ Rs [fr] fR (some ⟨E.b 5,0,none⟩) cR 1 W (((hp.2 rfl).take 2).self cover2) (fun w hw=>box_own ((hp.2 rfl).stay hw 2 rfl on2).2.2 rfl (show 1≤1000 by decide)) (by simp only [List.length_singleton];omega)).mono fun e w' h=>h.post hk hp.1,fun _ W hk=>(tableC k.f k.l k.c k.X 1 lv fr k.pg W (by have:=okM_true ok.hM;omega) ok.hlc (hX W hk)).mono fun _ _ hJ=>⟨hJ.1.trans (by rw [htb]),hJ.2⟩,fun E W hk hp=>⟨fE,cE,fD,cD,E.f 6,E.b 6,rfl,hp.2 rfl⟩⟩) rfl (fun _=>by kernel_rfl)
theorem astand_any (k:TrC) (b:Nat) (lv fr n f:Int) (sE sD sR:Value) (w:World) (hb:w.heap[b]?=some (.cells (trpC k lv fr sE sD sR).toArray 262)) :
  Calls Tryz.prog 281 #[.pointer (some ⟨b,0,none⟩),.int .i64 n,.int .i64 f] w fun e w'=>e=.returned (.tuple #[])∧Fits [b] w [⟨b,0,262,trpC k n f sE sD sR,.own⟩] w':=by
 exact calls_ex mixedT [⟨b,0,262,trpC k lv fr sE sD sR,.own⟩] (.r 0 [a1 4 0 21] (.r 1 [a1 4 0 20] (.fin [] (fun _=>.tuple #[]) [(0,(fun _=>⟨b,0,262,trpC k n f sE sD sR,.own⟩))]))) Tryz.func281 rfl (Fits.box hb) (fun E W hk hp=>⟨rfl,hp.2 rfl⟩) rfl (fun _=>by kernel_rfl)
theorem aenter_any (k:TrC) (b:Nat) (lv fr:Int) (Es:List Ety) (Ds:List Inv) (Rs:List Int) (fE fD fR:Option Addr) (cE cD cR:Nat) (W:World) (hF:TrF k b lv fr Es Ds Rs fE fD fR cE cD cR W) (n mid:Int) (ok:TrOk k) (hX:∀ w,Keep (ft4 b fE fD fR) W w→WordsAt w k.f k.l k.X) (hT:mayT Es Ds=true) (hG:GoodE k.l Es) (hR:Rs.length≤90000) (n0:0≤n) (n1:n≤3) (m0:0≤mid) (m1:mid≤4095) {z:EnR} (hz:enterK k.a k.pg lv fr n (reachL k.a ⟨Es,Rs⟩ mid 0)=z) :
  Calls Tryz.prog 262 #[.pointer (some ⟨b,0,none⟩),.int .i64 n,.int .i64 mid] W (TrE k b z.1.2.1 z.1.2.2 fE fD fR W (fltV z.1.1) z.2.E Ds z.2.R):=by
 obtain ⟨⟨⟨rh,rx⟩,⟨rE,rR⟩⟩,hr9⟩:∃ q,reachL k.a ⟨Es,Rs⟩ mid 0=q:=⟨_,rfl⟩
 have hg:=reach_good ok hT hG m0 m1 hr9
 have hf:=hg.2.2.2
 simp only at hg hf
 rw [hr9] at hz
 have hw1:IntKind.i64.wrap (n - 1)=n - 1:=IntWalk.i64_in _ (by omega)
 have hc:=mod_cov k.pg (n - 1) ok.p0
 have hw2:IntKind.i64.wrap (k.pg - (k.pg % cov (n - 1)))=(k.pg - k.pg % cov (n - 1)):=IntWalk.i64_in _ (by have:=ok.p0;have:=ok.p1;omega)
 obtain ⟨q0,hq0⟩:∃ b,(rx.k != 0)=b:=⟨_,rfl⟩
 obtain ⟨q1,hq1⟩:∃ b,(k.pw)=b:=⟨_,rfl⟩
 obtain ⟨q2,hq2⟩:∃ b,(decide ((n:Int) > 0))=b:=⟨_,rfl⟩
 exact calls_ex mixedT [⟨b,0,262,trpC k lv fr (.slice fE Es.length cE) (.slice fD Ds.length cD) (.slice fR Rs.length cR),.own⟩,ownFx KE.t 14 fE Es.length cE (rcells KE Es),ownFx KI.t 4 fD Ds.length cD (rcells KI Ds),ownFx 3 1 fR Rs.length cR (icells Rs)] (.r 1 [(4,.callg 257 (fun _=>[.pointer (some ⟨b,0,none⟩),.int .i64 mid,.int .i64 0]) (fun _=>.tuple #[hitV rh,fltV rx]) [(0,(fun _=>⟨b,0,262,trpC k lv fr (.slice fE Es.length cE) (.slice fD Ds.length cD) (.slice fR Rs.length cR),.own⟩)),(1,(fun _=>ownFx KE.t 14 fE Es.length cE (rcells KE Es))),(2,(fun _=>ownFx KI.t 4 fD Ds.length cD (rcells KI Ds))),(3,(fun _=>ownFx 3 1 fR Rs.length cR (icells Rs)))] [(0,(fun E=>⟨b,0,262,trpC k lv fr (.slice (E.f 5) rE.length (E.b 5)) (.slice (E.f 6) Ds.length (E.b 6)) (.slice (E.f 7) rR.length (E.b 7)),.own⟩)),(1,(fun _=>noBx)),(2,(fun _=>noBx)),(3,(fun _=>noBx))] 5 [fun E=>OwnP KE.t 14 (E.f 5) rE.length (E.b 5) (rcells KE rE),fun E=>OwnP KI.t 4 (E.f 6) Ds.length (E.b 6) (rcells KI Ds),fun E=>OwnP 3 1 (E.f 7) rR.length (E.b 7) (icells rR)]),aN 10 8 0 9,aN 11 9 0 5] (.r 2 [aN 0 9 0 5,(1,.call 236 (fun _=>[fltV rx]) (fun _=>.bool q0))] (.split (q0) (.r 3 [a1 1 9 3] (.r 4 [aN 0 9 0 5,aN 1 4 0 5] (.fin [(4,0,5)] (fun _=>.agg #[.int .i64 rx.k,.int .i64 rx.st,.int .i64 rx.lv,.bool true,.int .i64 rx.p]) [(0,(fun E=>⟨b,0,262,trpC k lv fr (.slice (E.f 5) rE.length (E.b 5)) (.slice (E.f 6) Ds.length (E.b 6)) (.slice (E.f 7) rR.length (E.b 7)),.own⟩)),(5,(fun E=>ownFx KE.t 14 (E.f 5) rE.length (E.b 5) (rcells KE rE))),(6,(fun E=>ownFx KI.t 4 (E.f 6) Ds.length (E.b 6) (rcells KI Ds))),(7,(fun E=>ownFx 3 1 (E.f 7) rR.length (E.b 7) (icells rR)))]))) (.r 5 [a1 3 8 0,(4,.callg 281 (fun _=>[.pointer (some ⟨b,0,none⟩),.int .i64 n,.int .i64 rh.f]) (fun _=>.tuple #[]) [(0,(fun E=>⟨b,0,262,trpC k lv fr (.slice (E.f 5) rE.length (E.b 5)) (.slice (E.f 6) Ds.length (E.b 6)) (.slice (E.f 7) rR.length (E.b 7)),.own⟩))] [(0,(fun E=>⟨b,0,262,trpC k n rh.f (.slice (E.f 5) rE.length (E.b 5)) (.slice (E.f 6) Ds.length (E.b 6)) (.slice (E.f 7) rR.length (E.b 7)),.own⟩))] 10 [])] (.r 6 [a1 6 0 5,(7,.rw (fun _=>.bool k.pw) (fun _=>.bool q1)),(9,.rw (fun _=>.bool (decide ((n:Int) > 0))) (fun _=>.bool q2))] (.split (q1&&q2) (.r 7 [a1 7 0 18,(10,.rw (fun _=>.int .i64 (IntKind.i64.wrap (n - 1))) (fun _=>.int .i64 (n - 1))),(11,.callg 284 (fun _=>[.pointer (some ⟨b,0,none⟩),.int .i64 (n - 1)]) (fun _=>.int .i64 (k.pg % cov (n - 1))) [(0,(fun E=>⟨b,0,262,trpC k n rh.f (.slice (E.f 5) rE.length (E.b 5)) (.slice (E.f 6) Ds.length (E.b 6)) (.slice (E.f 7) rR.length (E.b 7)),.own⟩))] [] 10 []),(12,.rw (fun _=>.int .i64 (IntKind.i64.wrap (k.pg - (k.pg % cov (n - 1))))) (fun _=>.int .i64 (k.pg - k.pg % cov (n - 1)))),a1 15 8 0,(16,.callg 283 (fun _=>[.pointer (some ⟨b,0,none⟩),.int .i64 (k.pg - k.pg % cov (n - 1)),.int .i64 n,.int .i64 rh.f]) (fun _=>.tuple #[]) [(0,(fun E=>⟨b,0,262,trpC k n rh.f (.slice (E.f 5) rE.length (E.b 5)) (.slice (E.f 6) Ds.length (E.b 6)) (.slice (E.f 7) rR.length (E.b 7)),.own⟩)),(5,(fun E=>ownFx KE.t 14 (E.f 5) rE.length (E.b 5) (rcells KE rE))),(6,(fun E=>ownFx KI.t 4 (E.f 6) Ds.length (E.b 6) (rcells KI Ds))),(7,(fun E=>ownFx 3 1 (E.f 7) rR.length (E.b 7) (icells rR)))] [(0,(fun E=>⟨b,0,262,trpC k n rh.f (.slice (E.f 10) (fill9 rE (tabE k.a k.pg n rh.f)).length (E.b 10)) (.slice (E.f 11) Ds.length (E.b 11)) (.slice (E.f 12) rR.length (E.b 12)),.own⟩)),(5,(fun _=>noBx)),(6,(fun _=>noBx)),(7,(fun _=>noBx))] 10 [fun E=>OwnP KE.t 14 (E.f 10) (fill9 rE (tabE k.a k.pg n rh.f)).length (E.b 10) (rcells KE (fill9 rE (tabE k.a k.pg n rh.f))),fun E=>OwnP KI.t 4 (E.f 11) Ds.length (E.b 11) (rcells KI Ds),fun E=>OwnP 3 1 (E.f 12) rR.length (E.b 12) (icells rR)])] (.r 8 [aN 1 4 0 5] (.fin [(4,0,5)] (fun _=>fltV flt0) [(0,(fun E=>⟨b,0,262,trpC k n rh.f (.slice (E.f 10) (fill9 rE (tabE k.a k.pg n rh.f)).length (E.b 10)) (.slice (E.f 11) Ds.length (E.b 11)) (.slice (E.f 12) rR.length (E.b 12)),.own⟩)),(10,(fun E=>ownFx KE.t 14 (E.f 10) (fill9 rE (tabE k.a k.pg n rh.f)).length (E.b 10) (rcells KE (fill9 rE (tabE k.a k.pg n rh.f))))),(11,(fun E=>ownFx KI.t 4 (E.f 11) Ds.length (E.b 11) (rcells KI Ds))),(12,(fun E=>ownFx 3 1 (E.f 12) rR.length (E.b 12) (icells rR)))]))) (.r 8 [aN 1 4 0 5] (.fin [(4,0,5)] (fun _=>fltV flt0) [(0,(fun E=>⟨b,0,262,trpC k n rh.f (.slice (E.f 5) rE.length (E.b 5)) (.slice (E.f 6) Ds.length (E.b 6)) (.slice (E.f 7) rR.length (E.b 7)),.own⟩)),(5,(fun E=>ownFx KE.t 14 (E.f 5) rE.length (E.b 5) (rcells KE rE))),(6,(fun E=>ownFx KI.t 4 (E.f 6) Ds.length (E.b 6) (rcells KI Ds))),(7,(fun E=>ownFx 3 1 (E.f 7) rR.length (E.b 7) (icells rR)))])))))))) Tryz.func262 rfl hF (⟨fun E W hk hp=>(areach_any k b lv fr Es Ds Rs fE fD fR cE cD cR W ((hp.2 rfl).self cover4) mid 0 ok (fun w hw=>hX w (hk.under hw (cov4 (hp.2 rfl)))) hT hG hR m0 m1 (by decide) hr9).mono fun e w' h=>mid_post hk hp.1 h,fun _ W _=>(afault_any _ W).mono fun _ _ hJ=>⟨hJ.1.trans (by rw [hq0]),hJ.2⟩,fun hS3=>fun E W hk hp=>by subst hq0 hq1 hq2;(try simp only [bq_and,bp_and,decide_eq_true_eq,decide_eq_false_iff_not,bne_iff_ne,bne_eq_false_iff_eq,beq_iff_eq,beq_eq_false_iff_ne,ne_eq] at hS3);simp only [enterK,fltW,hS3,ne_eq,not_true_eq_false,not_false_eq_true,if_true,if_false,Bool.false_eq_true] at hz;subst hz;exact ⟨E.f 5,E.b 5,E.f 6,E.b 6,E.f 7,E.b 7,rfl,hp.2 rfl⟩,fun hS3=>⟨fun E W hk hp=>(astand_any k b _ _ n rh.f _ _ _ W (hp.1 _ (List.mem_singleton.2 rfl)).2.2).mono fun e w' h=>GPost.box1 hk hp.1 rfl rfl (fun _ h=>nomatch h) h.1 h.2,fun _=>congrArg Value.bool hq1,fun _=>congrArg Value.bool hq2,fun hS4=>⟨fun _=>by rw [hw1],fun E W hk hp=>(awin_any k _ _ b _ _ _ (n - 1) W ok.p0 (by subst hq0 hq1 hq2;have h:=hS4;rw [bp_and] at h;have h:=(of_decide_eq_true h).2;omega) (by omega) (hp.2 rfl).ro).mono fun _ _ hJ=>GPost.quiet hk hJ,fun _=>by rw [hw2],fun E W hk hp=>(akeepT_any k b n rh.f rE Ds rR (E.f 5) (E.f 6) (E.f 7) (E.b 5) (E.b 6) (E.b 7) W ((hp.2 rfl).self cover4) (k.pg - k.pg % cov (n - 1)) n rh.f hg.1 (tabE_may ok (by subst hq0 hq1 hq2;have h:=hS4;rw [bp_and] at h;have h:=(of_decide_eq_true h).2;omega) n1 (hf (by subst hq0 hq1 hq2;simpa using hS3)).1 (hf (by subst hq0 hq1 hq2;simpa using hS3)).2.1)).mono fun e w' h=>mid_post hk hp.1 h,fun E W hk hp=>by subst hq0 hq1 hq2;(try simp only [bq_and,bp_and,decide_eq_true_eq,decide_eq_false_iff_not,bne_iff_ne,bne_eq_false_iff_eq,beq_iff_eq,beq_eq_false_iff_ne,ne_eq] at hS3 hS4);simp only [enterK,fltW,hS3,hS4,ne_eq,not_true_eq_false,not_false_eq_true,if_true,if_false,Bool.false_eq_true] at hz;subst hz;exact ⟨E.f 10,E.b 10,E.f 11,E.b 11,E.f 12,E.b 12,rfl,hp.2 rfl⟩⟩,fun hS4=>fun E W hk hp=>by subst hq0 hq1 hq2;(try simp only [bq_and,bp_and,decide_eq_true_eq,decide_eq_false_iff_not,bne_iff_ne,bne_eq_false_iff_eq,beq_iff_eq,beq_eq_false_iff_ne,ne_eq] at hS3 hS4);simp only [enterK,fltW,hS3,hS4,ne_eq,not_true_eq_false,not_false_eq_true,if_true,if_false,Bool.false_eq_true] at hz;subst hz;exact ⟨E.f 5,E.b 5,E.f 6,E.b 6,E.f 7,E.b 7,rfl,hp.2 rfl⟩⟩⟩) rfl (fun _=>by cases q1<;>kernel_rfl)
theorem astart_any (k:TrC) (b:Nat) (Es:List Ety) (Ds:List Inv) (Rs:List Int) (fE fD fR:Option Addr) (cE cD cR:Nat) (W:World) (hF:TrF k b 0 0 Es Ds Rs fE fD fR cE cD cR W) (ok:TrOk k) (hX:∀ w,Keep (ft4 b fE fD fR) W w→WordsAt w k.f k.l k.X) (hT:mayT Es Ds=true) (hG:GoodE k.l Es) (hR:Rs.length≤90000) {z:EnR} (hz:beginL k.a k.pg ⟨Es,Rs⟩=z) :
  Calls Tryz.prog 260 #[.pointer (some ⟨b,0,none⟩)] W (TrE k b z.1.2.1 z.1.2.2 fE fD fR W (fltV z.1.1) z.2.E Ds z.2.R):=by
 obtain ⟨⟨qe,qn⟩,hq⟩:∃ q,deepR Es Ds k.tg k.tg1 k.pg=q:=⟨_,rfl⟩
 rw [begin_used hT (is_num ok).1 hq] at hz
 obtain ⟨⟨⟨nx,⟨nl,nf⟩⟩,⟨nE,nR⟩⟩,hz9⟩:∃ q,enterK k.a k.pg 0 0 0 (reachL k.a ⟨Es,Rs⟩ k.of1 0)=q:=⟨_,rfl⟩
 rw [hz9] at hz
 obtain ⟨q0,hq0⟩:∃ b,(k.pu&&(qn==0))=b:=⟨_,rfl⟩
 exact calls_ex mixedT [⟨b,0,262,trpC k 0 0 (.slice fE Es.length cE) (.slice fD Ds.length cD) (.slice fR Rs.length cR),.own⟩,ownFx KE.t 14 fE Es.length cE (rcells KE Es),ownFx KI.t 4 fD Ds.length cD (rcells KI Ds),ownFx 3 1 fR Rs.length cR (icells Rs)] (.r 1 [a1 7 0 18,(8,.callg 280 (fun _=>[.pointer (some ⟨b,0,none⟩),.int .i64 k.pg]) (fun _=>.tuple #[entV qe,.bool q0]) [(0,(fun _=>⟨b,0,262,trpC k 0 0 (.slice fE Es.length cE) (.slice fD Ds.length cD) (.slice fR Rs.length cR),.own⟩)),(1,(fun _=>ownFx KE.t 14 fE Es.length cE (rcells KE Es))),(2,(fun _=>ownFx KI.t 4 fD Ds.length cD (rcells KI Ds)))] [] 5 []),aN 13 5 0 14] (.split (q0) (.r 3 [a1 2 5 5,a1 4 5 6,(5,.callg 281 (fun _=>[.pointer (some ⟨b,0,none⟩),.int .i64 qe.lv,.int .i64 qe.fr]) (fun _=>.tuple #[]) [(0,(fun _=>⟨b,0,262,trpC k 0 0 (.slice fE Es.length cE) (.slice fD Ds.length cD) (.slice fR Rs.length cR),.own⟩))] [(0,(fun _=>⟨b,0,262,trpC k qe.lv qe.fr (.slice fE Es.length cE) (.slice fD Ds.length cD) (.slice fR Rs.length cR),.own⟩))] 6 [])] (.r 4 [aN 1 4 0 5] (.fin [(4,0,5)] (fun _=>fltV flt0) [(0,(fun _=>⟨b,0,262,trpC k qe.lv qe.fr (.slice fE Es.length cE) (.slice fD Ds.length cD) (.slice fR Rs.length cR),.own⟩)),(1,(fun _=>ownFx KE.t 14 fE Es.length cE (rcells KE Es))),(2,(fun _=>ownFx KI.t 4 fD Ds.length cD (rcells KI Ds))),(3,(fun _=>ownFx 3 1 fR Rs.length cR (icells Rs)))]))) (.r 5 [a1 5 0 16,(6,.callg 262 (fun _=>[.pointer (some ⟨b,0,none⟩),.int .i64 0,.int .i64 k.of1]) (fun _=>fltV nx) [(0,(fun _=>⟨b,0,262,trpC k 0 0 (.slice fE Es.length cE) (.slice fD Ds.length cD) (.slice fR Rs.length cR),.own⟩)),(1,(fun _=>ownFx KE.t 14 fE Es.length cE (rcells KE Es))),(2,(fun _=>ownFx KI.t 4 fD Ds.length cD (rcells KI Ds))),(3,(fun _=>ownFx 3 1 fR Rs.length cR (icells Rs)))] [(0,(fun E=>⟨b,0,262,trpC k nl nf (.slice (E.f 6) nE.length (E.b 6)) (.slice (E.f 7) Ds.length (E.b 7)) (.slice (E.f 8) nR.length (E.b 8)),.own⟩)),(1,(fun _=>noBx)),(2,(fun _=>noBx)),(3,(fun _=>noBx))] 6 [fun E=>OwnP KE.t 14 (E.f 6) nE.length (E.b 6) (rcells KE nE),fun E=>OwnP KI.t 4 (E.f 7) Ds.length (E.b 7) (rcells KI Ds),fun E=>OwnP 3 1 (E.f 8) nR.length (E.b 8) (icells nR)]),aN 7 4 0 5] (.fin [(4,0,5)] (fun _=>fltV nx) [(0,(fun E=>⟨b,0,262,trpC k nl nf (.slice (E.f 6) nE.length (E.b 6)) (.slice (E.f 7) Ds.length (E.b 7)) (.slice (E.f 8) nR.length (E.b 8)),.own⟩)),(6,(fun E=>ownFx KE.t 14 (E.f 6) nE.length (E.b 6) (rcells KE nE))),(7,(fun E=>ownFx KI.t 4 (E.f 7) Ds.length (E.b 7) (rcells KI Ds))),(8,(fun E=>ownFx 3 1 (E.f 8) nR.length (E.b 8) (icells nR)))])))) Tryz.func260 rfl hF (⟨fun E W hk hp=>(atable_any k _ _ b _ _ _ _ Es Ds _ qe qn k.pg W (own_rows (hp.1 _ (List.mem_cons_of_mem _ (List.mem_cons_self ..)))) (own_rows (hp.1 _ (List.mem_cons_of_mem _ (List.mem_cons_of_mem _ (List.mem_singleton.2 rfl))))) (by have:=mayT_len hT;omega) (by have:=mayT_len hT;omega) (own_room (hp.1 _ (List.mem_cons_of_mem _ (List.mem_cons_self ..))).2.2.1).1 (own_room (hp.1 _ (List.mem_cons_of_mem _ (List.mem_cons_self ..))).2.2.1).2.1 hq (((hp.2 rfl).take 1).ro)).mono fun _ _ hJ=>GPost.quiet hk ⟨hJ.1.trans (by rw [hq0]),hJ.2⟩,fun hS2=>⟨fun E W hk hp=>(astand_any k b _ _ qe.lv qe.fr _ _ _ W (hp.1 _ (List.mem_singleton.2 rfl)).2.2).mono fun e w' h=>GPost.box1 hk hp.1 rfl rfl (fun _ h=>nomatch h) h.1 h.2,fun E W hk hp=>by subst hq0;(try simp only [bq_and,bp_and,decide_eq_true_eq,decide_eq_false_iff_not,bne_iff_ne,bne_eq_false_iff_eq,beq_iff_eq,beq_eq_false_iff_ne,ne_eq] at hS2);simp only [hS2,ne_eq,not_true_eq_false,not_false_eq_true,if_true,if_false,Bool.false_eq_true] at hz;subst hz;exact ⟨fE,cE,fD,cD,fR,cR,rfl,hp.2 rfl⟩⟩,fun hS2=>⟨fun E W hk hp=>(aenter_any k b 0 0 Es Ds Rs fE fD fR cE cD cR W ((hp.2 rfl).self cover4) 0 k.of1 ok (fun w hw=>hX w (hk.under hw (cov4 (hp.2 rfl)))) hT hG hR (by decide) (by decide) ok.o0 ok.o1 hz9).mono fun e w' h=>mid_post hk hp.1 h,fun E W hk hp=>by subst hq0;(try simp only [bq_and,bp_and,decide_eq_true_eq,decide_eq_false_iff_not,bne_iff_ne,bne_eq_false_iff_eq,beq_iff_eq,beq_eq_false_iff_ne,ne_eq] at hS2);simp only [hS2,ne_eq,not_true_eq_false,not_false_eq_true,if_true,if_false,Bool.false_eq_true] at hz;subst hz;exact ⟨E.f 6,E.b 6,E.f 7,E.b 7,E.f 8,E.b 8,rfl,hp.2 rfl⟩⟩⟩) rfl (fun _=>by kernel_rfl)
theorem aland_any (k:TrC) (b:Nat) (lv fr:Int) (Es:List Ety) (Ds:List Inv) (Rs:List Int) (fE fD fR:Option Addr) (cE cD cR:Nat) (W:World) (hF:TrF k b lv fr Es Ds Rs fE fD fR cE cD cR W) (mid:Int) (ab:List Atr) (fA:Option Addr) (hA:∀ w,Keep (ft4 b fE fD fR) W w→OwnP KA.t 6 fA ab.length ab.length (rcells KA ab) w) (hl:ab.length≤1000) (ok:TrOk k) (hX:∀ w,Keep (ft4 b fE fD fR) W w→WordsAt w k.f k.l k.X) (hT:mayT Es Ds=true) (hG:GoodE k.l Es) (hR:Rs.length≤90000) (m0:0≤mid) (m1:mid≤4095) {z:LnR} (hz:landK ab (reachL k.a ⟨Es,Rs⟩ mid k.acc)=z) :
  Calls Tryz.prog 233 #[.pointer (some ⟨b,0,none⟩),.int .i64 mid,.slice fA ab.length ab.length] W (TrE k b lv fr fE fD fR W (.tuple #[hitV z.1.1,fltV z.1.2]) z.2.E Ds z.2.R):=by
 obtain ⟨⟨⟨rh,rx⟩,⟨rE,rR⟩⟩,hr9⟩:∃ q,reachL k.a ⟨Es,Rs⟩ mid k.acc=q:=⟨_,rfl⟩
 rw [hr9] at hz
 obtain ⟨q0,hq0⟩:∃ b,(rx.k != 0)=b:=⟨_,rfl⟩
 exact calls_ex mixedT [⟨b,0,262,trpC k lv fr (.slice fE Es.length cE) (.slice fD Ds.length cD) (.slice fR Rs.length cR),.own⟩,ownFx KE.t 14 fE Es.length cE (rcells KE Es),ownFx KI.t 4 fD Ds.length cD (rcells KI Ds),ownFx 3 1 fR Rs.length cR (icells Rs)] (.r 1 [a1 7 0 19,(8,.callg 257 (fun _=>[.pointer (some ⟨b,0,none⟩),.int .i64 mid,.int .i64 k.acc]) (fun _=>.tuple #[hitV rh,fltV rx]) [(0,(fun _=>⟨b,0,262,trpC k lv fr (.slice fE Es.length cE) (.slice fD Ds.length cD) (.slice fR Rs.length cR),.own⟩)),(1,(fun _=>ownFx KE.t 14 fE Es.length cE (rcells KE Es))),(2,(fun _=>ownFx KI.t 4 fD Ds.length cD (rcells KI Ds))),(3,(fun _=>ownFx 3 1 fR Rs.length cR (icells Rs)))] [(0,(fun E=>⟨b,0,262,trpC k lv fr (.slice (E.f 6) rE.length (E.b 6)) (.slice (E.f 7) Ds.length (E.b 7)) (.slice (E.f 8) rR.length (E.b 8)),.own⟩)),(1,(fun _=>noBx)),(2,(fun _=>noBx)),(3,(fun _=>noBx))] 6 [fun E=>OwnP KE.t 14 (E.f 6) rE.length (E.b 6) (rcells KE rE),fun E=>OwnP KI.t 4 (E.f 7) Ds.length (E.b 7) (rcells KI Ds),fun E=>OwnP 3 1 (E.f 8) rR.length (E.b 8) (icells rR)]),aN 14 9 0 9,aN 15 10 0 5] (.r 2 [aN 0 10 0 5,(1,.call 236 (fun _=>[fltV rx]) (fun _=>.bool q0))] (.split (q0) (.r 3 [aN 1 10 0 5,aN 2 4 0 9,aN 3 5 0 5] (.fin [(4,0,9),(5,0,5)] (fun _=>.tuple #[hitV hit0,fltV rx]) [(0,(fun E=>⟨b,0,262,trpC k lv fr (.slice (E.f 6) rE.length (E.b 6)) (.slice (E.f 7) Ds.length (E.b 7)) (.slice (E.f 8) rR.length (E.b 8)),.own⟩)),(6,(fun E=>ownFx KE.t 14 (E.f 6) rE.length (E.b 6) (rcells KE rE))),(7,(fun E=>ownFx KI.t 4 (E.f 7) Ds.length (E.b 7) (rcells KI Ds))),(8,(fun E=>ownFx 3 1 (E.f 8) rR.length (E.b 8) (icells rR)))])) (.r 4 [aN 2 9 2 6,(4,.opc (.call ⟨.builtin .append,#[(.tmp 26),(.tmp 29)],#[291,291]⟩) (fun E=>[.slice fA ab.length ab.length,.slice (some ⟨E.b 11,0,none⟩) 1 1]) (fun E=>.slice (E.f 12) (ab++[rh.t]).length (E.b 12)) [(11,(fun E=>⟨E.b 11,0,119,[.bool rh.t.r,.bool rh.t.w,.bool rh.t.x,.bool rh.t.a,.bool rh.t.n,.int .i64 rh.t.s],.own⟩))] [] 12 [fun E=>OwnP KA.t 6 (E.f 12) (ab++[rh.t]).length (E.b 12) (rcells KA (ab++[rh.t]))]),(5,.callg 258 (fun E=>[.slice (E.f 12) (ab++[rh.t]).length (E.b 12)]) (fun _=>.agg #[.bool (bothL (ab++[rh.t])).r,.bool (bothL (ab++[rh.t])).w,.bool (bothL (ab++[rh.t])).x,.bool (bothL (ab++[rh.t])).a,.bool (bothL (ab++[rh.t])).n,.int .i64 (bothL (ab++[rh.t])).s]) [(12,(fun E=>ownFx KA.t 6 (E.f 12) (ab++[rh.t]).length (E.b 12) (rcells KA (ab++[rh.t]))))] [] 13 []),aN 7 9 2 6] (.r 5 [aN 0 9 0 9,aN 2 4 0 9,aN 3 5 0 5] (.fin [(4,0,9),(5,0,5)] (fun _=>.tuple #[.agg #[.int .i64 rh.f,.int .i64 rh.m,.bool (bothL (ab++[rh.t])).r,.bool (bothL (ab++[rh.t])).w,.bool (bothL (ab++[rh.t])).x,.bool (bothL (ab++[rh.t])).a,.bool (bothL (ab++[rh.t])).n,.int .i64 (bothL (ab++[rh.t])).s,.int .i64 rh.l],fltV flt0]) [(0,(fun E=>⟨b,0,262,trpC k lv fr (.slice (E.f 6) rE.length (E.b 6)) (.slice (E.f 7) Ds.length (E.b 7)) (.slice (E.f 8) rR.length (E.b 8)),.own⟩)),(6,(fun E=>ownFx KE.t 14 (E.f 6) rE.length (E.b 6) (rcells KE rE))),(7,(fun E=>ownFx KI.t 4 (E.f 7) Ds.length (E.b 7) (rcells KI Ds))),(8,(fun E=>ownFx 3 1 (E.f 8) rR.length (E.b 8) (icells rR)))])))))) Tryz.func233 rfl hF (⟨fun E W hk hp=>(areach_any k b lv fr Es Ds Rs fE fD fR cE cD cR W ((hp.2 rfl).self cover4) mid k.acc ok (fun w hw=>hX w (hk.under hw (cov4 (hp.2 rfl)))) hT hG hR m0 m1 ok.ac hr9).mono fun e w' h=>mid_post hk hp.1 h,fun _ W _=>(afault_any _ W).mono fun _ _ hJ=>⟨hJ.1.trans (by rw [hq0]),hJ.2⟩,fun hS2=>fun E W hk hp=>by subst hq0;(try simp only [bq_and,bp_and,decide_eq_true_eq,decide_eq_false_iff_not,bne_iff_ne,bne_eq_false_iff_eq,beq_iff_eq,beq_eq_false_iff_ne,ne_eq] at hS2);simp only [landK,hS2,ne_eq,not_true_eq_false,not_false_eq_true,if_true,if_false,Bool.false_eq_true] at hz;subst hz;exact ⟨E.f 6,E.b 6,E.f 7,E.b 7,E.f 8,E.b 8,rfl,hp.2 rfl⟩,fun hS2=>⟨fun E W ρ o ho hx hk hp=>full_opc (q:=rh.t) ho hx hk (hA W hk) hp.1 rfl hl,fun E W hk hp=>(bothC _ _ _ (ab++[rh.t]) W (own_rows (hp.1 _ (List.mem_singleton.2 rfl))) rfl (by simp only [List.length_append,List.length_singleton];omega)).mono fun e w' h=>GPost.quiet hk h,fun E W hk hp=>by subst hq0;(try simp only [bq_and,bp_and,decide_eq_true_eq,decide_eq_false_iff_not,bne_iff_ne,bne_eq_false_iff_eq,beq_iff_eq,beq_eq_false_iff_ne,ne_eq] at hS2);simp only [landK,hS2,ne_eq,not_true_eq_false,not_false_eq_true,if_true,if_false,Bool.false_eq_true] at hz;subst hz;exact ⟨E.f 6,E.b 6,E.f 7,E.b 7,E.f 8,E.b 8,rfl,hp.2 rfl⟩⟩⟩) rfl (fun _=>by kernel_rfl)
theorem apass_any (k:TrC) (b:Nat) (lv fr:Int) (Es:List Ety) (Ds:List Inv) (Rs:List Int) (fE fD fR:Option Addr) (cE cD cR:Nat) (W:World) (hF:TrF k b lv fr Es Ds Rs fE fD fR cE cD cR W) (d:Dsc) (ok:TrOk k) (hX:∀ w,Keep (ft4 b fE fD fR) W w→WordsAt w k.f k.l k.X) (hT:mayT Es Ds=true) (hG:GoodE k.l Es) (hR:Rs.length≤90000) (l0:0≤lv) (l1:lv≤3) (hi:0≤(d.f+k.pg % cov lv)∧(d.f+k.pg % cov lv)≤4095) {z:LnR} (hz:passL k.a k.pg k.acc lv d ⟨Es,Rs⟩=z) :
  Calls Tryz.prog 263 #[.pointer (some ⟨b,0,none⟩),dscV d] W (TrE k b lv fr fE fD fR W (.tuple #[hitV z.1.1,fltV z.1.2]) z.2.E Ds z.2.R):=by
 have hw9:IntKind.i64.wrap (d.f+(k.pg % cov lv))=(d.f+k.pg % cov lv):=IntWalk.i64_in _ (by omega)
 unfold passL at hz
 obtain ⟨gx,hgx⟩:∃ q,flagA d.at' k.acc 1 lv k.pg=q:=⟨_,rfl⟩
 obtain ⟨⟨⟨nh,nx⟩,⟨nE,nR⟩⟩,hz9⟩:∃ q,landK [d.at'] (reachL k.a ⟨Es,Rs⟩ (d.f+k.pg % cov lv) k.acc)=q:=⟨_,rfl⟩
 rw [hgx,hz9] at hz
 obtain ⟨q0,hq0⟩:∃ b,(gx.k != 0)=b:=⟨_,rfl⟩
 exact calls_ex mixedT [⟨b,0,262,trpC k lv fr (.slice fE Es.length cE) (.slice fD Ds.length cD) (.slice fR Rs.length cR),.own⟩,ownFx KE.t 14 fE Es.length cE (rcells KE Es),ownFx KI.t 4 fD Ds.length cD (rcells KI Ds),ownFx 3 1 fR Rs.length cR (icells Rs)] (.r 1 [aN 1 4 2 6,a1 5 0 19,a1 9 0 21,a1 13 0 18,(14,.call 285 (fun _=>[.agg #[.bool d.r,.bool d.w,.bool d.x,.bool d.a,.bool d.n,.int .i64 d.s],.int .i64 k.acc,.int .i64 1,.int .i64 lv,.int .i64 k.pg]) (fun _=>.tuple #[fltV gx,.int .i64 0])),aN 19 7 0 5] (.r 2 [aN 0 7 0 5,(1,.call 236 (fun _=>[fltV gx]) (fun _=>.bool q0))] (.split (q0) (.r 3 [aN 1 7 0 5,aN 2 5 0 9,aN 3 6 0 5] (.fin [(5,0,9),(6,0,5)] (fun _=>.tuple #[hitV hit0,fltV gx]) [(0,(fun _=>⟨b,0,262,trpC k lv fr (.slice fE Es.length cE) (.slice fD Ds.length cD) (.slice fR Rs.length cR),.own⟩)),(1,(fun _=>ownFx KE.t 14 fE Es.length cE (rcells KE Es))),(2,(fun _=>ownFx KI.t 4 fD Ds.length cD (rcells KI Ds))),(3,(fun _=>ownFx 3 1 fR Rs.length cR (icells Rs)))])) (.r 4 [a1 2 4 1,a1 7 0 21,(8,.callg 284 (fun _=>[.pointer (some ⟨b,0,none⟩),.int .i64 lv]) (fun _=>.int .i64 (k.pg % cov lv)) [(0,(fun _=>⟨b,0,262,trpC k lv fr (.slice fE Es.length cE) (.slice fD Ds.length cD) (.slice fR Rs.length cR),.own⟩))] [] 8 []),(9,.rw (fun _=>.int .i64 (IntKind.i64.wrap (d.f+(k.pg % cov lv)))) (fun _=>.int .i64 (d.f+k.pg % cov lv))),aN 11 4 2 6,(13,.callg 233 (fun E=>[.pointer (some ⟨b,0,none⟩),.int .i64 (d.f+k.pg % cov lv),.slice (some ⟨E.b 8,0,none⟩) 1 1]) (fun _=>.tuple #[hitV nh,fltV nx]) [(0,(fun _=>⟨b,0,262,trpC k lv fr (.slice fE Es.length cE) (.slice fD Ds.length cD) (.slice fR Rs.length cR),.own⟩)),(1,(fun _=>ownFx KE.t 14 fE Es.length cE (rcells KE Es))),(2,(fun _=>ownFx KI.t 4 fD Ds.length cD (rcells KI Ds))),(3,(fun _=>ownFx 3 1 fR Rs.length cR (icells Rs))),(8,(fun E=>⟨E.b 8,0,119,[.bool d.r,.bool d.w,.bool d.x,.bool d.a,.bool d.n,.int .i64 d.s],.own⟩))] [(0,(fun E=>⟨b,0,262,trpC k lv fr (.slice (E.f 9) nE.length (E.b 9)) (.slice (E.f 10) Ds.length (E.b 10)) (.slice (E.f 11) nR.length (E.b 11)),.own⟩)),(1,(fun _=>noBx)),(2,(fun _=>noBx)),(3,(fun _=>noBx))] 9 [fun E=>OwnP KE.t 14 (E.f 9) nE.length (E.b 9) (rcells KE nE),fun E=>OwnP KI.t 4 (E.f 10) Ds.length (E.b 10) (rcells KI Ds),fun E=>OwnP 3 1 (E.f 11) nR.length (E.b 11) (icells nR)]),aN 16 5 0 9,aN 17 6 0 5] (.fin [(5,0,9),(6,0,5)] (fun _=>.tuple #[hitV nh,fltV nx]) [(0,(fun E=>⟨b,0,262,trpC k lv fr (.slice (E.f 9) nE.length (E.b 9)) (.slice (E.f 10) Ds.length (E.b 10)) (.slice (E.f 11) nR.length (E.b 11)),.own⟩)),(9,(fun E=>ownFx KE.t 14 (E.f 9) nE.length (E.b 9) (rcells KE nE))),(10,(fun E=>ownFx KI.t 4 (E.f 10) Ds.length (E.b 10) (rcells KI Ds))),(11,(fun E=>ownFx 3 1 (E.f 11) nR.length (E.b 11) (icells nR)))]))))) Tryz.func263 rfl hF (⟨fun _ W _=>(flagC d.at' k.acc 1 lv k.pg W).mono fun _ _ hJ=>⟨hJ.1.trans (by rw [ok.ac,if_pos rfl,if_pos rfl,hgx]),hJ.2⟩,fun _ W _=>(afault_any _ W).mono fun _ _ hJ=>⟨hJ.1.trans (by rw [hq0]),hJ.2⟩,fun hS2=>fun E W hk hp=>by subst hq0;(try simp only [bq_and,bp_and,decide_eq_true_eq,decide_eq_false_iff_not,bne_iff_ne,bne_eq_false_iff_eq,beq_iff_eq,beq_eq_false_iff_ne,ne_eq] at hS2);simp only [hS2,ne_eq,not_true_eq_false,not_false_eq_true,if_true,if_false,Bool.false_eq_true] at hz;subst hz;exact ⟨fE,cE,fD,cD,fR,cR,rfl,hp.2 rfl⟩,fun hS2=>⟨fun E W hk hp=>(awin_any k _ _ b _ _ _ lv W ok.p0 (by omega) (by omega) (hp.2 rfl).ro).mono fun _ _ hJ=>GPost.quiet hk hJ,fun _=>by rw [hw9],fun E W hk hp=>(aland_any k b lv fr Es Ds Rs fE fD fR cE cD cR W (((hp.2 rfl).take 4).self cover4) (d.f+k.pg % cov lv) [d.at'] (some ⟨E.b 8,0,none⟩) (fun w hw=>box_own ((hp.2 rfl).stay hw 4 rfl on4).2.2 rfl (show 1≤1000 by decide)) (show 1≤1000 by decide) ok (fun w hw=>hX w (hk.under hw (cov4 ((hp.2 rfl).take 4)))) hT hG hR hi.1 hi.2 hz9).mono fun e w' h=>mid_post hk hp.1 h,fun E W hk hp=>by subst hq0;(try simp only [bq_and,bp_and,decide_eq_true_eq,decide_eq_false_iff_not,bne_iff_ne,bne_eq_false_iff_eq,beq_iff_eq,beq_eq_false_iff_ne,ne_eq] at hS2);simp only [hS2,ne_eq,not_true_eq_false,not_false_eq_true,if_true,if_false,Bool.false_eq_true] at hz;subst hz;exact ⟨E.f 9,E.b 9,E.f 10,E.b 10,E.f 11,E.b 11,rfl,hp.2 rfl⟩⟩⟩) rfl (fun _=>by kernel_rfl)
end Go.Proofs.YtlgpdbgingjpbaaGreat
