/- Stage 14: the landed package access: Page: its contract. -/
import Derived.Test.YtlgpdbgingjpbaaGreatZe
set_option linter.all false
namespace Go.Proofs.YtlgpdbgingjpbaaGreat
open Go.ChangeShapes Go.WideShapes Go.ChangeAt Go.RowKit Go.Deep
theorem bothL_s (t u:Atr):(bothL ([t]++[u])).s=0:=rfl
theorem follow_good {k:TrC} (ok:TrOk k) {Ds:List Inv}:∀ (n:Nat) (lv fr:Int) (s:WkS),lv+n≤4→0≤lv→mayT s.E Ds=true→GoodE k.l s.E→mayT (followL k.a k.pg k.acc n lv fr s).2.E Ds=true∧
  ((followL k.a k.pg k.acc n lv fr s).1.1.2.k=0→(0≤(followL k.a k.pg k.acc n lv fr s).1.1.1.m∧(followL k.a k.pg k.acc n lv fr s).1.1.1.m≤4095)∧(0≤(followL k.a k.pg k.acc n lv fr s).1.1.1.f∧(followL k.a k.pg k.acc n lv fr s).1.1.1.f * 8+8≤k.l)∧(followL k.a k.pg k.acc n lv fr s).1.1.1.t.s=0)
 | 0,lv,fr,s,_,_,hT,_=>⟨hT,fun _=>⟨⟨Int.le_refl _,by show (0:Int)≤4095;decide⟩,⟨Int.le_refl _,by show (0:Int) * 8+8≤k.l;have:=okM_true ok.hM;omega⟩,rfl⟩⟩
 | n+1,lv,fr,s,hl,l0,hT,hG=>by
  have hkd:=tbl_kind k.X 1 lv fr k.pg
  have hdf:=tbl_frame k.X 1 lv fr k.pg
  have htin:=tbl_in k.X 1 lv fr k.pg
  have hc:=mod_cov k.pg lv ok.p0
  unfold followL lookK
  generalize tblD k.X 1 lv fr k.pg=d at *
  rcases hkd with hkd | ⟨hkd,h3⟩ | hkd
  ·rw [if_neg (by omega),if_neg (by omega)]
   exact ⟨hT,fun h=>absurd h (by simp)⟩
  ·rw [if_pos hkd]
   have hr:=reach_good ok (s:=⟨s.E,s.R++[fr]⟩) (acc:=0) hT hG hdf.1 hdf.2 rfl
   have he:=enter_good ok (lv0:=lv) (fr0:=fr) (lv:=lv+1) (by omega) (by omega) hr.1 hr.2.1 (fun h=>⟨(hr.2.2.2 h).1,(hr.2.2.2 h).2.1⟩) rfl
   generalize enterK k.a k.pg lv fr (lv+1) (reachL k.a ⟨s.E,s.R++[fr]⟩ d.f 0)=q at *
   unfold followK
   split
   ·rename_i hq
    exact ⟨he.1,fun h=>absurd h hq⟩
   ·rename_i hq
    have h4:=he.2.2.2 (Decidable.not_not.1 hq)
    exact follow_good ok n _ _ _ (by rw [h4.1];omega) (by rw [h4.1];omega) he.1 he.2.1
  ·rw [if_neg (by omega),if_pos hkd]
   unfold passL
   have ht:=htin hkd
   have hr:=reach_good ok (s:=⟨s.E,s.R++[fr]⟩) (mid:=d.f+k.pg % cov lv) (acc:=k.acc) hT hG (by omega) ht rfl
   generalize reachL k.a ⟨s.E,s.R++[fr]⟩ (d.f+k.pg % cov lv) k.acc=q at *
   simp only
   split
   ·rename_i hq
    exact ⟨hT,fun h=>absurd h hq⟩
   ·unfold landK
    split
    ·rename_i hq
     exact ⟨hr.1,fun h=>absurd h hq⟩
    ·rename_i hq
     have h4:=hr.2.2.2 (Decidable.not_not.1 hq)
     exact ⟨hr.1,fun _=>⟨⟨by simp only;omega,by simp only;omega⟩,⟨h4.1,h4.2.1⟩,bothL_s _ _⟩⟩
theorem followB_good {k:TrC} (ok:TrOk k) {Ds:List Inv} {Es:List Ety} {Rs:List Int} (hT:mayT Es Ds=true) (hG:GoodE k.l Es) {z:FlR} (hz:followB k.a k.pg k.acc (beginL k.a k.pg ⟨Es,Rs⟩)=z) :
  mayT z.2.E Ds=true∧(z.1.1.2.k=0→mayEn (whoE k.a k.pg z.1.1.1)=true):=by
 have hb:=begin_good ok (Rs:=Rs) hT hG rfl
 unfold followB at hz
 generalize beginL k.a k.pg ⟨Es,Rs⟩=q at *
 subst hz
 unfold followK
 split
 ·rename_i hq
  exact ⟨hb.1,fun h=>absurd h hq⟩
 ·rename_i hq
  have h4:=hb.2.2.2 (Decidable.not_not.1 hq)
  have hf:=follow_good ok (4 - q.1.2.1).toNat q.1.2.1 q.1.2.2 q.2 (by omega) h4.1 hb.1 hb.2.1
  exact ⟨hf.1,fun h=>whoE_may ok (hf.2 h).1.1 (hf.2 h).1.2 (hf.2 h).2.1.1 (hf.2 h).2.1.2 (hf.2 h).2.2⟩
def endW (a:AcW) (on1:Bool) (pg acc:Int) (s:WkS) (u:Bool):Int×Int:=if on1=false then (0,0) else if u=true then (0,0) else (followB a pg acc (beginL a pg s)).1.2
theorem end_used {k:TrC} {s:WkS} {Ds:List Inv} (hT:mayT s.E Ds=true) (h4:is4 k.tg k.tg1 k.pg k.acc=true) {q:Ety×Int} (hq:firstR s.E Ds 1 k.tg k.tg1 k.pg k.acc=q) :
  endL k.a k.on1 k.pg k.acc s=if k.on1=false then (((landK [] (reachL k.a s k.pg k.acc)).1.1.f,(landK [] (reachL k.a s k.pg k.acc)).1.2),(landK [] (reachL k.a s k.pg k.acc)).2)
   else if (k.pu&&(q.2==0))=true then ((q.1.fr,flt0),s) else fillK k.a k.pg (followB k.a k.pg k.acc (beginL k.a k.pg s)):=by
 subst hq
 unfold endL whole9
 split
 ·rfl
 ·rcases look4 hT h4 with ⟨h1,h2⟩ | ⟨i,y,h1,h2,h3⟩
  ·rw [h1,h2,if_neg (by rintro ⟨_,h⟩;exact absurd h (by decide)),if_neg (by simp)]
  ·have hy:s.E.getD (i:Int).toNat ent0=y:=by rw [Int.toNat_natCast,List.getD_eq_getElem?_getD,h1];rfl
   rw [h2,h3,hy]
   by_cases hu:k.pu=true
   ·rw [if_pos ⟨hu,by omega⟩,if_pos (by rw [hu];rfl)]
   ·rw [if_neg (fun h=>hu h.1),if_neg (by simp [hu])]
theorem mayB_ok {k:TrC} {Es:List Ety} {Ds:List Inv} (h:mayB14 k Es Ds=true) (hlc:k.l≤k.c):TrOk k∧mayT Es Ds=true∧GoodE k.l Es:=by
 unfold mayB14 mayC14 at h
 simp only [Bool.and_eq_true,numB_iff,heldB_iff] at h
 obtain ⟨h1,⟨h2,⟨h3,h4,h5⟩,h6,h7,h8⟩,h9,h10⟩:=h
 refine ⟨⟨h2,hlc,h7,h8.1,h8.2,h9.1,h9.2,h4.1,h4.2,h5.1,h5.2,h10.1,h10.2,numB_iff.2 h1⟩,h3,fun e he=>?_⟩
 have hm:=mayT_may h3 e he
 rw [mayEn_two] at hm
 unfold numE at hm
 simp only [Bool.and_eq_true,numB_iff] at hm
 have:=h6 e he
 have:=hm.1.2.2.2.1
 omega
theorem okE_of {l:Nat} {Es:List Ety} {Ds:List Inv} (hT:mayT Es Ds=true) (hG:GoodE l Es):OkE l Es:=⟨hG,fun e he hk=>mayEn_lv (mayT_may hT e he) hk⟩
theorem mayT_dropA {Es:List Ety} {Ds:List Inv} (hT:mayT Es Ds=true) (pd:Int):mayT (dropA Es pd) Ds=true:=by
 unfold dropA
 split
 ·exact mayT_sub hT (drop9_sub _ _)
 ·exact hT
theorem aend_any (k:TrC) (b:Nat) (Es:List Ety) (Ds:List Inv) (Rs:List Int) (fE fD fR:Option Addr) (cE cD cR:Nat) (W:World) (hF:TrF k b 0 0 Es Ds Rs fE fD fR cE cD cR W) (ok:TrOk k) (hX:∀ w,Keep (ft4 b fE fD fR) W w→WordsAt w k.f k.l k.X) (hT:mayT Es Ds=true) (hG:GoodE k.l Es) (hR:Rs.length≤70000) {z:AcR} (hz:endL k.a k.on1 k.pg k.acc ⟨Es,Rs⟩=z) :
  Calls Tryz.prog 191 #[.pointer (some ⟨b,0,none⟩)] W (TrE k b (endW k.a k.on1 k.pg k.acc ⟨Es,Rs⟩ (k.pu&&((firstR Es Ds 1 k.tg k.tg1 k.pg k.acc).2==0))).1 (endW k.a k.on1 k.pg k.acc ⟨Es,Rs⟩ (k.pu&&((firstR Es Ds 1 k.tg k.tg1 k.pg k.acc).2==0))).2 fE fD fR W (.tuple #[.int .i64 z.1.1,fltV z.1.2]) z.2.E Ds z.2.R):=by
 obtain ⟨⟨qe,qn⟩,hq⟩:∃ q,firstR Es Ds 1 k.tg k.tg1 k.pg k.acc=q:=⟨_,rfl⟩
 rw [end_used hT (is_num ok).2 hq] at hz
 obtain ⟨⟨⟨lh,lx⟩,⟨lE,lR⟩⟩,hz7⟩:∃ q,landK [] (reachL k.a ⟨Es,Rs⟩ k.pg k.acc)=q:=⟨_,rfl⟩
 obtain ⟨⟨⟨⟨nh,nx⟩,⟨nl,nf⟩⟩,⟨nE,nR⟩⟩,hz8⟩:∃ q,followB k.a k.pg k.acc (beginL k.a k.pg ⟨Es,Rs⟩)=q:=⟨_,rfl⟩
 have hg:=followB_good ok hT hG hz8
 rw [hq]
 obtain ⟨w9,hz6⟩:∃ q,endW k.a k.on1 k.pg k.acc ⟨Es,Rs⟩ (k.pu&&((qe,qn).2==0))=q:=⟨_,rfl⟩
 rw [hz6]
 unfold endW at hz6
 rw [hz7,hz8] at hz
 rw [hz8] at hz6
 obtain ⟨q0,hq0⟩:∃ b,(!k.on1)=b:=⟨_,rfl⟩
 obtain ⟨q1,hq1⟩:∃ b,(k.pu&&(qn==0))=b:=⟨_,rfl⟩
 obtain ⟨q2,hq2⟩:∃ b,(k.pf)=b:=⟨_,rfl⟩
 obtain ⟨q3,hq3⟩:∃ b,(nx.k != 0)=b:=⟨_,rfl⟩
 exact calls_ex mixedT [⟨b,0,262,trpC k 0 0 (.slice fE Es.length cE) (.slice fD Ds.length cD) (.slice fR Rs.length cR),.own⟩,ownFx KE.t 14 fE Es.length cE (rcells KE Es),ownFx KI.t 4 fD Ds.length cD (rcells KI Ds),ownFx 3 1 fR Rs.length cR (icells Rs)] (.r 1 [a1 4 0 15,(5,.rw (fun _=>.bool (!k.on1)) (fun _=>.bool q0))] (.split (q0) (.r 2 [a1 4 0 18,(5,.callg 233 (fun _=>[.pointer (some ⟨b,0,none⟩),.int .i64 k.pg,.slice none 0 0]) (fun _=>.tuple #[hitV lh,fltV lx]) [(0,(fun _=>⟨b,0,262,trpC k 0 0 (.slice fE Es.length cE) (.slice fD Ds.length cD) (.slice fR Rs.length cR),.own⟩)),(1,(fun _=>ownFx KE.t 14 fE Es.length cE (rcells KE Es))),(2,(fun _=>ownFx KI.t 4 fD Ds.length cD (rcells KI Ds))),(3,(fun _=>ownFx 3 1 fR Rs.length cR (icells Rs)))] [(0,(fun E=>⟨b,0,262,trpC k 0 0 (.slice (E.f 5) lE.length (E.b 5)) (.slice (E.f 6) Ds.length (E.b 6)) (.slice (E.f 7) lR.length (E.b 7)),.own⟩)),(1,(fun _=>noBx)),(2,(fun _=>noBx)),(3,(fun _=>noBx))] 5 [fun E=>OwnP KE.t 14 (E.f 5) lE.length (E.b 5) (rcells KE lE),fun E=>OwnP KI.t 4 (E.f 6) Ds.length (E.b 6) (rcells KI Ds),fun E=>OwnP 3 1 (E.f 7) lR.length (E.b 7) (icells lR)]),aN 11 8 0 9,aN 12 9 0 5] (.r 3 [a1 1 8 0,aN 2 9 0 5,aN 4 4 0 5] (.fin [(4,0,5)] (fun _=>.tuple #[.int .i64 lh.f,fltV lx]) [(0,(fun E=>⟨b,0,262,trpC k 0 0 (.slice (E.f 5) lE.length (E.b 5)) (.slice (E.f 6) Ds.length (E.b 6)) (.slice (E.f 7) lR.length (E.b 7)),.own⟩)),(5,(fun E=>ownFx KE.t 14 (E.f 5) lE.length (E.b 5) (rcells KE lE))),(6,(fun E=>ownFx KI.t 4 (E.f 6) Ds.length (E.b 6) (rcells KI Ds))),(7,(fun E=>ownFx 3 1 (E.f 7) lR.length (E.b 7) (icells lR)))]))) (.r 4 [a1 7 0 18,a1 11 0 19,(12,.callg 234 (fun _=>[.pointer (some ⟨b,0,none⟩),.int .i64 k.pg,.int .i64 k.acc]) (fun _=>.tuple #[entV qe,.bool q1]) [(0,(fun _=>⟨b,0,262,trpC k 0 0 (.slice fE Es.length cE) (.slice fD Ds.length cD) (.slice fR Rs.length cR),.own⟩)),(1,(fun _=>ownFx KE.t 14 fE Es.length cE (rcells KE Es))),(2,(fun _=>ownFx KI.t 4 fD Ds.length cD (rcells KI Ds)))] [] 5 []),aN 17 5 0 14] (.split (q1) (.r 6 [a1 1 5 6,aN 4 4 0 5] (.fin [(4,0,5)] (fun _=>.tuple #[.int .i64 qe.fr,fltV flt0]) [(0,(fun _=>⟨b,0,262,trpC k 0 0 (.slice fE Es.length cE) (.slice fD Ds.length cD) (.slice fR Rs.length cR),.own⟩)),(1,(fun _=>ownFx KE.t 14 fE Es.length cE (rcells KE Es))),(2,(fun _=>ownFx KI.t 4 fD Ds.length cD (rcells KI Ds))),(3,(fun _=>ownFx 3 1 fR Rs.length cR (icells Rs)))])) (.r 7 [(1,.callg 235 (fun _=>[.pointer (some ⟨b,0,none⟩)]) (fun _=>.tuple #[hitV nh,fltV nx]) [(0,(fun _=>⟨b,0,262,trpC k 0 0 (.slice fE Es.length cE) (.slice fD Ds.length cD) (.slice fR Rs.length cR),.own⟩)),(1,(fun _=>ownFx KE.t 14 fE Es.length cE (rcells KE Es))),(2,(fun _=>ownFx KI.t 4 fD Ds.length cD (rcells KI Ds))),(3,(fun _=>ownFx 3 1 fR Rs.length cR (icells Rs)))] [(0,(fun E=>⟨b,0,262,trpC k nl nf (.slice (E.f 6) nE.length (E.b 6)) (.slice (E.f 7) Ds.length (E.b 7)) (.slice (E.f 8) nR.length (E.b 8)),.own⟩)),(1,(fun _=>noBx)),(2,(fun _=>noBx)),(3,(fun _=>noBx))] 6 [fun E=>OwnP KE.t 14 (E.f 6) nE.length (E.b 6) (rcells KE nE),fun E=>OwnP KI.t 4 (E.f 7) Ds.length (E.b 7) (rcells KI Ds),fun E=>OwnP 3 1 (E.f 8) nR.length (E.b 8) (icells nR)]),aN 7 9 0 9,aN 8 10 0 5] (.r 8 [a1 6 0 3,(7,.rw (fun _=>.bool k.pf) (fun _=>.bool q2)),aN 8 10 0 5,(9,.call 236 (fun _=>[fltV nx]) (fun _=>.bool q3))] (.split (q2&&(!q3)) (.r 9 [a1 7 0 18,aN 8 9 0 9,(9,.callg 237 (fun _=>[.pointer (some ⟨b,0,none⟩),.int .i64 k.pg,hitV nh]) (fun _=>.tuple #[]) [(0,(fun E=>⟨b,0,262,trpC k nl nf (.slice (E.f 6) nE.length (E.b 6)) (.slice (E.f 7) Ds.length (E.b 7)) (.slice (E.f 8) nR.length (E.b 8)),.own⟩)),(6,(fun E=>ownFx KE.t 14 (E.f 6) nE.length (E.b 6) (rcells KE nE))),(7,(fun E=>ownFx KI.t 4 (E.f 7) Ds.length (E.b 7) (rcells KI Ds))),(8,(fun E=>ownFx 3 1 (E.f 8) nR.length (E.b 8) (icells nR)))] [(0,(fun E=>⟨b,0,262,trpC k nl nf (.slice (E.f 11) (fill9 nE (whoE k.a k.pg nh)).length (E.b 11)) (.slice (E.f 12) Ds.length (E.b 12)) (.slice (E.f 13) nR.length (E.b 13)),.own⟩)),(6,(fun _=>noBx)),(7,(fun _=>noBx)),(8,(fun _=>noBx))] 11 [fun E=>OwnP KE.t 14 (E.f 11) (fill9 nE (whoE k.a k.pg nh)).length (E.b 11) (rcells KE (fill9 nE (whoE k.a k.pg nh))),fun E=>OwnP KI.t 4 (E.f 12) Ds.length (E.b 12) (rcells KI Ds),fun E=>OwnP 3 1 (E.f 13) nR.length (E.b 13) (icells nR)])] (.r 10 [a1 1 9 0,aN 2 10 0 5,aN 4 4 0 5] (.fin [(4,0,5)] (fun _=>.tuple #[.int .i64 nh.f,fltV nx]) [(0,(fun E=>⟨b,0,262,trpC k nl nf (.slice (E.f 11) (fill9 nE (whoE k.a k.pg nh)).length (E.b 11)) (.slice (E.f 12) Ds.length (E.b 12)) (.slice (E.f 13) nR.length (E.b 13)),.own⟩)),(11,(fun E=>ownFx KE.t 14 (E.f 11) (fill9 nE (whoE k.a k.pg nh)).length (E.b 11) (rcells KE (fill9 nE (whoE k.a k.pg nh))))),(12,(fun E=>ownFx KI.t 4 (E.f 12) Ds.length (E.b 12) (rcells KI Ds))),(13,(fun E=>ownFx 3 1 (E.f 13) nR.length (E.b 13) (icells nR)))]))) (.r 10 [a1 1 9 0,aN 2 10 0 5,aN 4 4 0 5] (.fin [(4,0,5)] (fun _=>.tuple #[.int .i64 nh.f,fltV nx]) [(0,(fun E=>⟨b,0,262,trpC k nl nf (.slice (E.f 6) nE.length (E.b 6)) (.slice (E.f 7) Ds.length (E.b 7)) (.slice (E.f 8) nR.length (E.b 8)),.own⟩)),(6,(fun E=>ownFx KE.t 14 (E.f 6) nE.length (E.b 6) (rcells KE nE))),(7,(fun E=>ownFx KI.t 4 (E.f 7) Ds.length (E.b 7) (rcells KI Ds))),(8,(fun E=>ownFx 3 1 (E.f 8) nR.length (E.b 8) (icells nR)))]))))))))) Tryz.func191 rfl hF (⟨fun _=>congrArg Value.bool hq0,fun hS4=>⟨fun E W hk hp=>(aland_any k b 0 0 Es Ds Rs fE fD fR cE cD cR W ((hp.2 rfl).self cover4) k.pg [] none (fun w _=>World.ownsRow_nil _ _ _ _) (Nat.zero_le _) ok (fun w hw=>hX w (hk.under hw (cov4 (hp.2 rfl)))) hT hG (by omega) ok.p0 ok.p1 hz7).mono fun e w' h=>mid_post hk hp.1 h,fun E W hk hp=>by subst hq0 hq1 hq2 hq3;(try simp only [bq_and,bp_and,decide_eq_true_eq,decide_eq_false_iff_not,bne_iff_ne,bne_eq_false_iff_eq,beq_iff_eq,beq_eq_false_iff_ne,ne_eq,Bool.not_eq_true',Bool.not_eq_false'] at hS4);simp only [fillK,hS4,ne_eq,not_true_eq_false,not_false_eq_true,if_true,if_false,Bool.false_eq_true,Bool.true_eq_false] at hz hz6;subst hz;subst hz6;exact ⟨E.f 5,E.b 5,E.f 6,E.b 6,E.f 7,E.b 7,rfl,hp.2 rfl⟩⟩,fun hS4=>⟨fun E W hk hp=>(awhole_any k _ _ b _ _ _ _ Es Ds _ qe qn k.pg k.acc W (own_rows (hp.1 _ (List.mem_cons_of_mem _ (List.mem_cons_self ..)))) (own_rows (hp.1 _ (List.mem_cons_of_mem _ (List.mem_cons_of_mem _ (List.mem_singleton.2 rfl))))) (by have:=mayT_len hT;omega) (by have:=mayT_len hT;omega) (own_room (hp.1 _ (List.mem_cons_of_mem _ (List.mem_cons_self ..))).2.2.1).1 (own_room (hp.1 _ (List.mem_cons_of_mem _ (List.mem_cons_self ..))).2.2.1).2.1 hq (((hp.2 rfl).take 1).ro)).mono fun _ _ hJ=>GPost.quiet hk ⟨hJ.1.trans (by rw [hq1]),hJ.2⟩,fun hS5=>fun E W hk hp=>by subst hq0 hq1 hq2 hq3;(try simp only [bq_and,bp_and,decide_eq_true_eq,decide_eq_false_iff_not,bne_iff_ne,bne_eq_false_iff_eq,beq_iff_eq,beq_eq_false_iff_ne,ne_eq,Bool.not_eq_true',Bool.not_eq_false'] at hS4 hS5);simp only [fillK,hS4,hS5,ne_eq,not_true_eq_false,not_false_eq_true,if_true,if_false,Bool.false_eq_true,Bool.true_eq_false] at hz hz6;subst hz;subst hz6;exact ⟨fE,cE,fD,cD,fR,cR,rfl,hp.2 rfl⟩,fun hS5=>⟨fun E W hk hp=>(afollow_any k b Es Ds Rs fE fD fR cE cD cR W ((hp.2 rfl).self cover4) ok (fun w hw=>hX w (hk.under hw (cov4 (hp.2 rfl)))) hT hG hR hz8).mono fun e w' h=>mid_post hk hp.1 h,fun _=>congrArg Value.bool hq2,fun _ W _=>(afault_any _ W).mono fun _ _ hJ=>⟨hJ.1.trans (by rw [hq3]),hJ.2⟩,fun hS6=>⟨fun E W hk hp=>(akeepW_any k b nl nf nE Ds nR (E.f 6) (E.f 7) (E.f 8) (E.b 6) (E.b 7) (E.b 8) W ((hp.2 rfl).self cover4) k.pg nh hg.1 (hg.2 (by subst hq0 hq1 hq2 hq3;have h:=hS6;rw [bq_and] at h;exact (of_decide_eq_true h).2))).mono fun e w' h=>mid_post hk hp.1 h,fun E W hk hp=>by subst hq0 hq1 hq2 hq3;(try simp only [bq_and,bp_and,decide_eq_true_eq,decide_eq_false_iff_not,bne_iff_ne,bne_eq_false_iff_eq,beq_iff_eq,beq_eq_false_iff_ne,ne_eq,Bool.not_eq_true',Bool.not_eq_false'] at hS4 hS5 hS6);simp only [fillK,hS4,hS5,hS6,ne_eq,not_true_eq_false,not_false_eq_true,if_true,if_false,Bool.false_eq_true,Bool.true_eq_false] at hz hz6;subst hz;subst hz6;exact ⟨E.f 11,E.b 11,E.f 12,E.b 12,E.f 13,E.b 13,rfl,hp.2 rfl⟩⟩,fun hS6=>fun E W hk hp=>by subst hq0 hq1 hq2 hq3;(try simp only [bq_and,bp_and,decide_eq_true_eq,decide_eq_false_iff_not,bne_iff_ne,bne_eq_false_iff_eq,beq_iff_eq,beq_eq_false_iff_ne,ne_eq,Bool.not_eq_true',Bool.not_eq_false'] at hS4 hS5 hS6);simp only [fillK,hS4,hS5,hS6,ne_eq,not_true_eq_false,not_false_eq_true,if_true,if_false,Bool.false_eq_true,Bool.true_eq_false] at hz hz6;subst hz;subst hz6;exact ⟨E.f 6,E.b 6,E.f 7,E.b 7,E.f 8,E.b 8,rfl,hp.2 rfl⟩⟩⟩⟩) rfl (fun _=>by cases q2<;>kernel_rfl)
theorem apage_yes (k:TrC) (fE fD:Option Addr) (cE cD:Nat) (Es:List Ety) (Ds:List Inv) (w:World) (hE:RowsAt KE w fE Es) (hD:RowsAt KI w fD Ds) (hls:Es.length≤90000) (hms:Ds.length≤90000) (hc:Es.length≤cE) (hc2:cE≤maxLen) (hf:fE=none→cE=0) (hg:fD=none→cD=0) (hX:WordsAt w k.f k.l k.X) (hlc:k.l≤k.c) (hB:mayB14 k Es Ds=true) {z:AcR} (hz:pageA k.a k.on1 Es k.pg k.acc k.pd=z) :
  Calls Tryz.prog 147 #[.agg #[.slice k.f k.l k.c],.agg #[.slice fE Es.length cE,.slice fD Ds.length cD],.agg #[.bool k.on1,.int .i64 k.of1,.int .i64 k.tg1],.agg #[.bool k.on2,.int .i64 k.tf,.int .i64 k.tg],.int .i64 k.pg,.int .i64 k.acc,.agg #[.int .i64 k.pc,.bool k.pf,.bool k.pm,.bool k.pw,.int .i64 k.pd,.bool k.pu]] w (PageEnd w (fun vT vR=>.tuple #[.int .i64 z.1.1,fltV z.1.2,vT,vR,.int .i64 0]) z.2.E Ds z.2.R):=by
 have hB1:=(mayB_ok hB hlc).1
 have hB2:=(mayB_ok hB hlc).2
 have hT2:=mayT_dropA hB2.1 k.pd
 have hG2:=((okE_of hB2.1 hB2.2).drop k.pd).1
 rw [← end_eq k.a k.on1 Es k.pg k.acc k.pd hB1.t0 hB1.o0 hB1.p0 (okE_of hB2.1 hB2.2)] at hz
 have hX:=fun w' (hk:Keep [] w w')=>hX.keep0 hk
 obtain ⟨dE,hdE⟩:∃ q,dropA Es k.pd=q:=⟨_,rfl⟩
 rw [hdE] at hz hT2 hG2
 obtain ⟨⟨⟨nf,nx⟩,⟨nE,nR⟩⟩,hz9⟩:∃ q,endL k.a k.on1 k.pg k.acc ⟨dE,[]⟩=q:=⟨_,rfl⟩
 rw [hz9] at hz
 subst hz
 obtain ⟨⟨wl,wf⟩,hw9⟩:∃ q,endW k.a k.on1 k.pg k.acc ⟨dE,[]⟩ (k.pu&&((firstR dE Ds 1 k.tg k.tg1 k.pg k.acc).2==0))=q:=⟨_,rfl⟩
 exact calls_ex mixedT [ownFx KE.t 14 none ([]:List Ety).length 0 (rcells KE ([]:List Ety)),ownFx KI.t 4 none ([]:List Inv).length 0 (rcells KI ([]:List Inv)),ownFx 3 1 none ([]:List Int).length 0 (icells ([]:List Int))] (.r 1 [aN 0 4 0 2,aN 1 7 0 6,a1 3 6 2,a1 5 5 2,aN 8 10 0 10] (.r 2 [aN 0 10 0 10,a1 1 3 0,aN 2 6 0 3,aN 4 5 0 3,aN 9 11 0 22] (.r 3 [(0,.callg 189 (fun E=>[.pointer (some ⟨E.b 11,0,none⟩)]) (fun _=>.bool true) [(11,(fun E=>⟨E.b 11,0,262,trpC k 0 0 (.slice fE Es.length cE) (.slice fD Ds.length cD) (.slice none 0 0),.own⟩))] [] 12 [])] (.r 5 [(2,.callg 190 (fun E=>[.pointer (some ⟨E.b 11,0,none⟩)]) (fun _=>.tuple #[]) [(11,(fun E=>⟨E.b 11,0,262,trpC k 0 0 (.slice fE Es.length cE) (.slice fD Ds.length cD) (.slice none 0 0),.own⟩)),(0,(fun _=>ownFx KE.t 14 none ([]:List Ety).length 0 (rcells KE ([]:List Ety)))),(1,(fun _=>ownFx KI.t 4 none ([]:List Inv).length 0 (rcells KI ([]:List Inv)))),(2,(fun _=>ownFx 3 1 none ([]:List Int).length 0 (icells ([]:List Int))))] [(11,(fun E=>⟨E.b 11,0,262,trpC k 0 0 (.slice (E.f 12) dE.length (E.b 12)) (.slice (E.f 13) Ds.length (E.b 13)) (.slice (E.f 14) ([]:List Int).length (E.b 14)),.own⟩)),(0,(fun _=>noBx)),(1,(fun _=>noBx)),(2,(fun _=>noBx))] 12 [fun E=>OwnP KE.t 14 (E.f 12) dE.length (E.b 12) (rcells KE dE),fun E=>OwnP KI.t 4 (E.f 13) Ds.length (E.b 13) (rcells KI Ds),fun E=>OwnP 3 1 (E.f 14) ([]:List Int).length (E.b 14) (icells ([]:List Int))])] (.r 6 [(0,.callg 191 (fun E=>[.pointer (some ⟨E.b 11,0,none⟩)]) (fun _=>.tuple #[.int .i64 nf,fltV nx]) [(11,(fun E=>⟨E.b 11,0,262,trpC k 0 0 (.slice (E.f 12) dE.length (E.b 12)) (.slice (E.f 13) Ds.length (E.b 13)) (.slice (E.f 14) ([]:List Int).length (E.b 14)),.own⟩)),(12,(fun E=>ownFx KE.t 14 (E.f 12) dE.length (E.b 12) (rcells KE dE))),(13,(fun E=>ownFx KI.t 4 (E.f 13) Ds.length (E.b 13) (rcells KI Ds))),(14,(fun E=>ownFx 3 1 (E.f 14) ([]:List Int).length (E.b 14) (icells ([]:List Int))))] [(11,(fun E=>⟨E.b 11,0,262,trpC k wl wf (.slice (E.f 15) nE.length (E.b 15)) (.slice (E.f 16) Ds.length (E.b 16)) (.slice (E.f 17) nR.length (E.b 17)),.own⟩)),(12,(fun _=>noBx)),(13,(fun _=>noBx)),(14,(fun _=>noBx))] 15 [fun E=>OwnP KE.t 14 (E.f 15) nE.length (E.b 15) (rcells KE nE),fun E=>OwnP KI.t 4 (E.f 16) Ds.length (E.b 16) (rcells KI Ds),fun E=>OwnP 3 1 (E.f 17) nR.length (E.b 17) (icells nR)]),aN 5 8 0 5] (.r 7 [aN 1 8 0 5,aN 5 11 0 2,a1 8 11 14,aN 10 8 0 5,aN 11 9 0 2] (.fin [(8,0,5),(9,0,2)] (fun E=>.tuple #[.int .i64 nf,fltV nx,.agg #[.slice (E.f 15) nE.length (E.b 15),.slice (E.f 16) Ds.length (E.b 16)],.slice (E.f 17) nR.length (E.b 17),.int .i64 0]) [(15,(fun E=>ownFx KE.t 14 (E.f 15) nE.length (E.b 15) (rcells KE nE))),(16,(fun E=>ownFx KI.t 4 (E.f 16) Ds.length (E.b 16) (rcells KI Ds))),(17,(fun E=>ownFx 3 1 (E.f 17) nR.length (E.b 17) (icells nR)))]))))))) Tryz.func147 rfl ((((Fits.nil w).nilrow KE.t 14).nilrow KI.t 4).nilrow 3 1) (⟨fun E W hk hp=>((abegin_any k 0 0 _ fE fD cE cD Es Ds _ W (hE.below hk.below) (hD.below hk.below) hls hms hc hc2 (hp.2 rfl).ro).mono fun _ _ hJ=>⟨hJ.1.trans (by rw [hB]),hJ.2⟩).mono fun _ _ hJ=>GPost.quiet hk hJ,fun E W hk hp=>(aopen_any k _ 0 0 fE fD cE cD Es Ds W (hp.1 _ (List.mem_cons_self ..)).2.2 (fun w hw=>hE.below (hk.under hw (fun c hc=>by obtain rfl:=List.mem_singleton.1 hc;exact (hp.1 _ (List.mem_cons_self ..)).2.1)).below) (fun w hw=>hD.below (hk.under hw (fun c hc=>by obtain rfl:=List.mem_singleton.1 hc;exact (hp.1 _ (List.mem_cons_self ..)).2.1)).below) hls hms hc hc2 hf hg hB2.1).mono fun e w' h=>mid_post hk hp.1 (by rw [hdE] at h;exact h),fun E W hk hp=>(aend_any k (E.b 11) dE Ds ([]:List Int) (E.f 12) (E.f 13) (E.f 14) (E.b 12) (E.b 13) (E.b 14) W ((hp.2 rfl).self cover4) hB1 (fun w hw=>hX w (hk.under hw (cov4 (hp.2 rfl)))) hT2 hG2 (Nat.zero_le _) hz9).mono fun e w' h=>mid_post hk hp.1 (by rw [hw9] at h;exact h),fun E W hk hp=>⟨E.f 15,E.b 15,E.f 16,E.b 16,E.f 17,E.b 17,rfl,hp.2 rfl⟩⟩) rfl (fun _=>by kernel_rfl)
end Go.Proofs.YtlgpdbgingjpbaaGreat
