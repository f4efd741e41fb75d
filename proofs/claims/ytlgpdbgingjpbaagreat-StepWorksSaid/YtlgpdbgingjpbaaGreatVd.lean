/- The landed package tlb: copies,filled,dropped: contracts. -/
import Derived.Test.YtlgpdbgingjpbaaGreatVb
import Derived.Test.YtlgpdbgingjpbaaGreatNa
import Derived.Test.YtlgpdbgingjpbaaGreatBl
import Derived.Lib.SliceRun
import Derived.Deep.RegionLaw
set_option linter.all false
namespace Go.Proofs.YtlgpdbgingjpbaaGreat
open Go.ChangeShapes Go.WideShapes Go.ChangeAt Go.RowKit Go.Deep
theorem BoxAt.setMany {g:Nat} {t:TypeId}:∀ (vs:List Value) (o:Nat) (w:World) (cur:Array Value),BoxAt w g cur t→o+vs.length≤cur.size→
  ∃ cur':Array Value,BoxAt (w.setCells g o vs) g cur' t∧cur'.size=cur.size∧cur'.toList=cur.toList.take o++vs++cur.toList.drop (o+vs.length)
 | [],o,w,cur,h,_=>⟨cur,h,rfl,by simp⟩
 | v :: r,o,w,cur,h,hs=>by
  simp only [List.length_cons] at hs
  rw [World.setCells]
  obtain ⟨c',h1,h2,h3⟩:=BoxAt.setMany r (o+1) _ _ (h.set o v _ rfl) (by rw [Array.size_setIfInBounds];omega)
  refine ⟨c',h1,by rw [h2,Array.size_setIfInBounds],?_⟩
  rw [h3,Array.toList_setIfInBounds,List.length_cons,List.drop_set,List.take_set]
  rw [if_pos (by omega)]
  have e1:(List.take (o+1) cur.toList).set o v=List.take o cur.toList++[v]:=by
   rw [List.take_succ_eq_append_getElem (by rw [Array.length_toList];omega),List.set_append_right _ _ (by rw [List.length_take];omega)]
   have:o - (List.take o cur.toList).length=0:=by simp;omega
   rw [this]
   rfl
  rw [e1,show o+1+r.length=o+(r.length+1) by omega]
  simp
theorem rcells_take {Q:Type} (K:RowK Q):∀ (L:List Q) (i:Nat),rcells K (L.take i)=(rcells K L).take (i * K.N)
 | [],i=>by simp [rcells]
 | x :: L,0=>by simp [rcells]
 | x :: L,i+1=>by
  rw [List.take_succ_cons,rcells,rcells,rcells_take K L i,Nat.add_mul,Nat.one_mul,Nat.add_comm (i * K.N)]
  have hx:(K.V x).toList.length=K.N:=by rw [Array.length_toList];exact K.size x
  rw [List.take_append]
  rw [hx,List.take_of_length_le (l:=(K.V x).toList) (by omega),Nat.add_sub_cancel_left]
theorem heap_setCells_oth (g k:Nat) (hne:k≠g):∀ (vs:List Value) (o:Nat) (w:World),(w.setCells g o vs).heap[k]?=w.heap[k]?
 | [],_,_=>rfl
 | v :: r,o,w=>by
  rw [World.setCells]
  exact (heap_setCells_oth g k hne r (o+1) _).trans (Below.heap_setCell w ⟨g,o,none⟩ v k hne)
theorem grownBy_setCells {w:World} {g:Nat}:∀ (vs:List Value) (o:Nat),w.grownBy (w.setCells g o vs) (some g):=fun vs o=>
 have h:=below_setCells (B:=0) vs g o w (Below.refl 0 w) (Nat.zero_le _)
 ⟨h.os,h.tape,h.output,h.size,fun k hk hne=>heap_setCells_oth g k (fun h=>hne (by rw [h])) vs o w⟩
section
variable {Q:Type} {K:RowK Q} {w:World} {base g n c:Nat} {L:List Q}
theorem OwnR.laid (h:OwnR K w base (.slice (some ⟨g,0,none⟩) n c) L) (i:Nat) (M:List Q) (hi:i≤n) (hc:i+M.length≤c) :
  OwnR K (w.setCells g (i * K.N) (rcells K M)) base (.slice (some ⟨g,0,none⟩) (i+M.length) c) (L.take i++M):=by
 have hn:=h.rows.1
 have h0:=h.1
 rcases h.2 with ⟨he,_⟩ | ⟨g',cap,cur,he,hb,hg,hnc,hm,hs,ht⟩
 ·simp at he
 simp only [Value.slice.injEq,Option.some.injEq,Addr.mk.injEq,and_true] at he
 obtain ⟨rfl,rfl,rfl⟩:=he
 have hlen:(rcells K M).length=M.length * K.N:=rcells_length K M
 have hin:i * K.N+(rcells K M).length≤cur.size:=by rw [hlen,hs,← Nat.add_mul];exact Nat.mul_le_mul_right _ hc
 obtain ⟨cur',h1,h2,h3⟩:=BoxAt.setMany (rcells K M) (i * K.N) w cur ⟨hg⟩ hin
 have hL:(L.take i++M).length=i+M.length:=by rw [List.length_append,List.length_take,Nat.min_eq_left (by omega)]
 refine ⟨rcells_length K _,.inr ⟨g,c,cur',by rw [hL],hb,h1.h,by rw [hL];exact hc,hm,by rw [h2,hs],?_⟩⟩
 rw [h3,hL,rcells_append,rcells_take,← ht,List.take_take,Nat.min_eq_left (Nat.mul_le_mul_right _ (by omega:i≤L.length))]
 have hcl:cur.toList.length=cur.size:=Array.length_toList
 have hq:(List.take (i * K.N) cur.toList++rcells K M).length=(i+M.length) * K.N:=by
  rw [List.length_append,List.length_take,hlen,hcl,Nat.add_mul,Nat.min_eq_left (by omega)]
 rw [List.take_append_of_le_length (by omega),List.take_of_length_le (by omega)]
theorem OwnR.past (h:OwnR K w base (.slice (some ⟨g,0,none⟩) n c) L) (vs:List Value) (hv:n * K.N+vs.length≤c * K.N) :
  OwnR K (w.setCells g (n * K.N) vs) base (.slice (some ⟨g,0,none⟩) n c) L:=by
 have hn:=h.rows.1
 rcases h.2 with ⟨he,_⟩ | ⟨g',cap,cur,he,hb,hg,hnc,hm,hs,ht⟩
 ·simp at he
 simp only [Value.slice.injEq,Option.some.injEq,Addr.mk.injEq,and_true] at he
 obtain ⟨rfl,rfl,rfl⟩:=he
 obtain ⟨cur',h1,h2,h3⟩:=BoxAt.setMany vs (L.length * K.N) w cur ⟨hg⟩ (by rw [hs];exact hv)
 refine ⟨h.1,.inr ⟨g,c,cur',rfl,hb,h1.h,hnc,hm,by rw [h2,hs],?_⟩⟩
 have hle:L.length * K.N≤cur.toList.length:=by
  have h5:cur.toList.length=cur.size:=Array.length_toList
  have h6:=Nat.mul_le_mul_right K.N hnc
  omega
 rw [h3,List.append_assoc,List.take_append_of_le_length (by rw [List.length_take];omega),List.take_take,Nat.min_self]
 exact ht
theorem OwnR.cell (h:OwnR K w base (.slice (some ⟨g,0,none⟩) n c) L) (j:Nat) (hj:j < c * K.N):(w.cell? ⟨g,j,none⟩).isSome=true∧w.frozen? ⟨g,j,none⟩=false:=by
 rcases h.2 with ⟨he,_⟩ | ⟨g',cap,cur,he,hb,hg,hnc,hm,hs,ht⟩
 ·simp at he
 simp only [Value.slice.injEq,Option.some.injEq,Addr.mk.injEq,and_true] at he
 obtain ⟨rfl,rfl,rfl⟩:=he
 have hB:BoxAt w g cur K.t:=⟨hg⟩
 refine ⟨?_,hB.free j⟩
 rw [hB.cell j]
 simp
 omega
theorem OwnR.room (h:OwnR K w base (.slice (some ⟨g,0,none⟩) n c) L):n≤c∧c≤maxLen:=by
 have hn:=h.rows.1
 rcases h.2 with ⟨he,_⟩ | ⟨g',cap,cur,he,hb,hg,hnc,hm,hs,ht⟩
 ·simp at he
 simp only [Value.slice.injEq,Option.some.injEq,Addr.mk.injEq,and_true] at he
 obtain ⟨rfl,rfl,rfl⟩:=he
 exact ⟨by omega,hm⟩
end
section
variable {Q:Type} {K:RowK Q}
theorem wpList_rowRl {w:World} {ops:Array Oper} {rest:List Oper} {o:Oper} {a:Act} {QQ:Exit→Act→World→Prop} (hgd:o.guard=none) (s x:Operand)
  (ho:o.op=.call { callee:=.builtin .append,args:=#[s,x],argTypes:=#[K.ts,K.ts] })
  (base n m k:Nat) (v:Value) (L M:List Q) (hs:a.eval s=v) (hown:OwnR K w base v L) (hn:n=L.length)
  (f:Option Addr) (c:Nat) (hx:a.eval x=.slice f m c) (hm:m=M.length) (hnm:n+m=k) (hM:RowsAt K w f M) (hf:f=none→c=0) (hk:n+m≤100000) (hbase:base≤w.heap.size)
  (h:∀ f' c' w',OwnR K w' base (.slice f' k c') (L++M)→w.grownBy w' v.ownBlock→(f'=none→c'=0)→wpList Tryz.prog ops QQ rest (a.put o.dst (.slice f' k c')) w'):wpList Tryz.prog ops QQ (o :: rest) a w:=by
 subst hn hm hnm
 exact wpList_rowR hgd s x ho base v L M hs hown f M.length c hx rfl hM hf hk hbase h
end
set_option maxRecDepth 100000 in
set_option maxHeartbeats 3200000 in
theorem tclE_any (f:Option Addr) (l c:Nat) (L:List Ety) (w:World) (hL:RowsAt KE w f L) (hn:l=L.length) (hl:l≤100000) (hf:f=none→c=0) :
  Calls Tryz.prog 86 #[.slice f l c] w fun e w'=>∃ f' c',e=.returned (.slice f' l c')∧OwnR KE w' w.heap.size (.slice f' l c') L∧Below w.heap.size w w':=by
 rcases f with _ | q
 ·have hL0:L=[]:=by
   cases L with
   | nil=>rfl
   | cons x L=>
    obtain ⟨b,o,he,_⟩:=hL 0 x rfl
    cases he
  have hc0:=hf rfl
  subst hL0 hn hc0
  clear hL hf hl
  have he:∀ w:World,(binOp .eql 74 (.slice none 0 0) (.slice none 0 0)).run Tryz.prog w=.ok (.bool true) w:=fun _=>rfl
  go_enter Tryz.func86,Tryz.ntmps86
  go_wp2
  go_ret
  exact ⟨none,0,rfl,OwnR.nil _ _,Below.refl _ _⟩
 ·have he:∀ w:World,(binOp .eql 74 (.slice (some q) l c) (.slice none 0 0)).run Tryz.prog w=.ok (.bool false) w:=fun _=>rfl
  have HA:=Lib.hid (bel_alloc (Below.refl w.heap.size w) (.cells #[] KE.t))
  have HL:=Lib.hid (hL.below HA.out)
  have HN:=Lib.hid hn
  have HO:=Lib.hid (OwnR.made (K:=KE) w w.heap.size [] #[] 0 (Nat.le_refl _) rfl (by simp) rfl)
  clear hL hn hf
  go_enter Tryz.func86,Tryz.ntmps86
  go_wp2_with (at_builtin;refine wpList_rowRl (K:=KE) rfl _ _ rfl w.heap.size 0 l l _ [] L rfl HO.out rfl (some q) c rfl HN.out (by omega) HL.out (by simp) (by omega) HA.out.size ?_;intro f2 c2 w2 hO2 hG2 _)
  go_ret
  exact ⟨f2,c2,rfl,hO2,HA.out.grown hG2 HA.out.size HO.out.blk⟩
set_option maxRecDepth 100000 in
set_option maxHeartbeats 3200000 in
theorem tclI_any (f:Option Addr) (l c:Nat) (L:List Inv) (w:World) (hL:RowsAt KI w f L) (hn:l=L.length) (hl:l≤100000) (hf:f=none→c=0) :
  Calls Tryz.prog 87 #[.slice f l c] w fun e w'=>∃ f' c',e=.returned (.slice f' l c')∧OwnR KI w' w.heap.size (.slice f' l c') L∧Below w.heap.size w w':=by
 rcases f with _ | q
 ·have hL0:L=[]:=by
   cases L with
   | nil=>rfl
   | cons x L=>
    obtain ⟨b,o,he,_⟩:=hL 0 x rfl
    cases he
  have hc0:=hf rfl
  subst hL0 hn hc0
  clear hL hf hl
  have he:∀ w:World,(binOp .eql 75 (.slice none 0 0) (.slice none 0 0)).run Tryz.prog w=.ok (.bool true) w:=fun _=>rfl
  go_enter Tryz.func87,Tryz.ntmps87
  go_wp2
  go_ret
  exact ⟨none,0,rfl,OwnR.nil _ _,Below.refl _ _⟩
 ·have he:∀ w:World,(binOp .eql 75 (.slice (some q) l c) (.slice none 0 0)).run Tryz.prog w=.ok (.bool false) w:=fun _=>rfl
  have HA:=Lib.hid (bel_alloc (Below.refl w.heap.size w) (.cells #[] KI.t))
  have HL:=Lib.hid (hL.below HA.out)
  have HN:=Lib.hid hn
  have HO:=Lib.hid (OwnR.made (K:=KI) w w.heap.size [] #[] 0 (Nat.le_refl _) rfl (by simp) rfl)
  clear hL hn hf
  go_enter Tryz.func87,Tryz.ntmps87
  go_wp2_with (at_builtin;refine wpList_rowRl (K:=KI) rfl _ _ rfl w.heap.size 0 l l _ [] L rfl HO.out rfl (some q) c rfl HN.out (by omega) HL.out (by simp) (by omega) HA.out.size ?_;intro f2 c2 w2 hO2 hG2 _)
  go_ret
  exact ⟨f2,c2,rfl,hO2,HA.out.grown hG2 HA.out.size HO.out.blk⟩
theorem tcopied_any (f g:Option Addr) (l c m d:Nat) (Es:List Ety) (Ds:List Inv) (w:World) (hE:RowsAt KE w f Es) (hl:l=Es.length) (hD:RowsAt KI w g Ds) (hm:m=Ds.length) (hls:l≤90000) (hms:m≤90000) (hf:f=none→c=0) (hg:g=none→d=0) :
  Calls Tryz.prog 271 #[.agg #[.slice f l c,.slice g m d]] w (EndT w Es Ds):=by
 subst hl hm
 exact calls_ex mixedT [] (.r 1 [a1 2 0 0,(3,.callg 86 (fun _=>[.slice f Es.length c]) (fun E=>.slice (E.f 2) Es.length (E.b 2)) [] [] 2 [fun E=>OwnP KE.t KE.N (E.f 2) Es.length (E.b 2) (rcells KE Es)]),a1 6 0 1,(7,.callg 87 (fun _=>[.slice g Ds.length d]) (fun E=>.slice (E.f 3) Ds.length (E.b 3)) [] [] 3 [fun E=>OwnP KI.t KI.N (E.f 3) Ds.length (E.b 3) (rcells KI Ds)]),aN 9 1 0 2] (.fin [(1,0,2)] (fun E=>.agg #[.slice (E.f 2) Es.length (E.b 2),.slice (E.f 3) Ds.length (E.b 3)]) [(2,(fun E=>⟨0,0,0,[],.fact ((E.f 2).map (fun (aJ:Addr)=>aJ.block)) (OwnP KE.t KE.N (E.f 2) Es.length (E.b 2) (rcells KE Es))⟩)),(3,(fun E=>⟨0,0,0,[],.fact ((E.f 3).map (fun (aJ:Addr)=>aJ.block)) (OwnP KI.t KI.N (E.f 3) Ds.length (E.b 3) (rcells KI Ds))⟩))])) Tryz.func271 rfl (Fits.nil w) (⟨fun E W hk _=>(tclE_any f _ c Es W (hE.below hk.below) rfl (by omega) hf).mono fun e w' h=>row_post hk h,fun E W hk _=>(tclI_any g _ d Ds W (hD.below hk.below) rfl (by omega) hg).mono fun e w' h=>row_post hk h,fun E W hk hp=>⟨_,_,_,_,rfl,own_base (hp.1 _ (List.mem_cons_self ..)),own_base (hp.1 _ (List.mem_cons_of_mem _ (List.mem_singleton.2 rfl))),hk.below⟩⟩) rfl (fun _=>by kernel_rfl)
theorem two_post {ft:List Nat} {w0 W w':World} {k:Nat} {pre:BL} {E:Env} {e:Ending} {Ef:List Ety} {Ds:List Inv} (hk:Keep ft w0 W) (h:EndT W Ef Ds e w') :
  ∃ q,GPost ft w0 k (fun E=>.agg #[.slice (E.f k) Ef.length (E.b k),.slice (E.f (k+1)) Ds.length (E.b (k+1))]) pre [] [fun E=>OwnP KE.t KE.N (E.f k) Ef.length (E.b k) (rcells KE Ef),fun E=>OwnP KI.t KI.N (E.f (k+1)) Ds.length (E.b (k+1)) (rcells KI Ds)] E W e w' q:=by
 obtain ⟨f',c',g',d',he,h1,h2,hb⟩:=h
 refine GPost.own2 hk hb (by decide) h1 h2 ?_
 have e1:((E.set k (c',f')).set (k+1) (d',g')).e k=(c',f'):=by rw [set_ne _ _ _ _ (by omega),set_at]
 have e2:((E.set k (c',f')).set (k+1) (d',g')).f k=f':=by unfold Env.f;rw [e1]
 have e3:((E.set k (c',f')).set (k+1) (d',g')).b k=c':=by unfold Env.b;rw [e1]
 rw [he,e2,e3,set_f,set_c]
theorem fill_yes {Es:List Ety} {e:Ety} (h:(decide ((Es.length:Int) < 8)&&(!decide (0≤inE Es e)))=true):fill9 Es e=Es++[e]:=by
 unfold fill9
 rw [if_pos (by simp at h;omega)]
theorem fill_no {Es:List Ety} {e:Ety} (h:(decide ((Es.length:Int) < 8)&&(!decide (0≤inE Es e)))=false):fill9 Es e=Es:=by
 unfold fill9
 rw [if_neg (by simp at h;omega)]
theorem twith_any (f g:Option Addr) (l c m d:Nat) (Es:List Ety) (Ds:List Inv) (e:Ety) (w:World) (hE:RowsAt KE w f Es) (hl:l=Es.length) (hD:RowsAt KI w g Ds) (hm:m=Ds.length) (hls:l≤90000) (hms:m≤90000) (hf:f=none→c=0) (hg:g=none→d=0) :
  Calls Tryz.prog 300 #[.agg #[.slice f l c,.slice g m d],entV e] w fun r w'=>∃ f' l' c' g' d',r=.returned (.agg #[.slice f' l' c',.slice g' m d'])∧l'=(fill9 Es e).length∧OwnR KE w' w.heap.size (.slice f' l' c') (fill9 Es e)∧OwnR KI w' w.heap.size (.slice g' m d') Ds∧Below w.heap.size w w':=by
 subst hl hm
 obtain ⟨q0,hq0⟩:∃ b,(decide ((Es.length:Int) < 8))=b:=⟨_,rfl⟩
 obtain ⟨q1,hq1⟩:∃ b,(decide (0≤inE Es e))=b:=⟨_,rfl⟩
 exact calls_ex mixedT [] (.r 1 [aN 0 0 0 2,(1,.callg 271 (fun _=>[.agg #[.slice f Es.length c,.slice g Ds.length d]]) (fun E=>.agg #[.slice (E.f 3) Es.length (E.b 3),.slice (E.f 4) Ds.length (E.b 4)]) [] [] 3 [fun E=>OwnP KE.t KE.N (E.f 3) Es.length (E.b 3) (rcells KE Es),fun E=>OwnP KI.t KI.N (E.f 4) Ds.length (E.b 4) (rcells KI Ds)]),aN 3 5 0 2] (.r 2 [a1 1 5 0,(3,.rw (fun _=>.bool (decide ((Es.length:Int) < 8))) (fun _=>.bool q0)),a1 6 5 0,aN 7 1 0 14,(8,.callg 186 (fun E=>[.slice (E.f 3) Es.length (E.b 3),entV e]) (fun _=>.bool q1) [(3,(fun E=>⟨0,0,0,[],.fact ((E.f 3).map (fun (aJ:Addr)=>aJ.block)) (OwnP KE.t KE.N (E.f 3) Es.length (E.b 3) (rcells KE Es))⟩))] [] 6 [])] (.split (q0&&(!q1)) (.r 3 [a1 1 5 0,aN 2 1 0 14,(4,.opc (.call ⟨.builtin .append,#[(.tmp 20),(.tmp 22)],#[74,74]⟩) (fun E=>[.slice (E.f 3) Es.length (E.b 3),.slice (some ⟨E.b 6,0,none⟩) 1 1]) (fun E=>.slice (E.f 7) ((Es++[e]).length) (E.b 7)) [(3,(fun E=>⟨0,0,0,[],.fact ((E.f 3).map (fun (aJ:Addr)=>aJ.block)) (OwnP KE.t KE.N (E.f 3) Es.length (E.b 3) (rcells KE Es))⟩)),(6,(fun E=>⟨E.b 6,0,121,(entC e).toList,.own⟩))] [(3,fun _=>noBx)] 7 [fun E=>OwnP KE.t KE.N (E.f 7) ((Es++[e]).length) (E.b 7) (rcells KE (Es++[e]))]),a1 6 5 0] (.r 4 [aN 0 5 0 2,aN 1 2 0 2] (.fin [(2,0,2)] (fun E=>.agg #[.slice (E.f 7) ((Es++[e]).length) (E.b 7),.slice (E.f 4) Ds.length (E.b 4)]) [(7,(fun E=>⟨0,0,0,[],.fact ((E.f 7).map (fun (aJ:Addr)=>aJ.block)) (OwnP KE.t KE.N (E.f 7) ((Es++[e]).length) (E.b 7) (rcells KE (Es++[e])))⟩)),(4,(fun E=>⟨0,0,0,[],.fact ((E.f 4).map (fun (aJ:Addr)=>aJ.block)) (OwnP KI.t KI.N (E.f 4) Ds.length (E.b 4) (rcells KI Ds))⟩))]))) (.r 4 [aN 0 5 0 2,aN 1 2 0 2] (.fin [(2,0,2)] (fun E=>.agg #[.slice (E.f 3) Es.length (E.b 3),.slice (E.f 4) Ds.length (E.b 4)]) [(3,(fun E=>⟨0,0,0,[],.fact ((E.f 3).map (fun (aJ:Addr)=>aJ.block)) (OwnP KE.t KE.N (E.f 3) Es.length (E.b 3) (rcells KE Es))⟩)),(4,(fun E=>⟨0,0,0,[],.fact ((E.f 4).map (fun (aJ:Addr)=>aJ.block)) (OwnP KI.t KI.N (E.f 4) Ds.length (E.b 4) (rcells KI Ds))⟩))]))))) Tryz.func300 rfl (Fits.nil w) (⟨fun E W hk _=>(tcopied_any f g _ c _ d Es Ds W (hE.below hk.below) rfl (hD.below hk.below) rfl hls hms hf hg).mono fun e w' h=>two_post hk h,fun _=>congrArg Value.bool hq0,fun E W hk hp=>(tcont_any _ _ _ Es e W (own_rows (hp.1 _ (List.mem_singleton.2 rfl))) rfl (by omega)).mono fun _ _ hJ=>GPost.quiet hk ⟨hJ.1.trans (by rw [hq1]),hJ.2⟩,fun hS2=>⟨fun E W ρ o ho hx hk hp=>pushK_opc (K:=KE) Tryz.underlying74 (by kernel_rfl) (by kernel_rfl) ho hx hk rfl hp.1 rfl (by omega),fun E W hk hp=>⟨_,_,_,_,_,by rw [show fill9 Es e=Es++[e] from by subst hq0 hq1;exact fill_yes hS2];exact ⟨rfl,rfl,own_base (hp.1 _ (List.mem_cons_self ..)),own_base (hp.1 _ (List.mem_cons_of_mem _ (List.mem_singleton.2 rfl))),hk.below⟩⟩⟩,fun hS2=>fun E W hk hp=>⟨_,_,_,_,_,by rw [show fill9 Es e=Es from by subst hq0 hq1;exact fill_no hS2];exact ⟨rfl,rfl,own_base (hp.1 _ (List.mem_cons_self ..)),own_base (hp.1 _ (List.mem_cons_of_mem _ (List.mem_singleton.2 rfl))),hk.below⟩⟩⟩) rfl (fun _=>by cases q0<;>kernel_rfl)
set_option maxRecDepth 100000 in
set_option maxHeartbeats 3200000 in
theorem tdel_any (f:Option Addr) (l c i j base:Nat) (E:List Ety) (w:World) (hO:OwnR KE w base (.slice f l c) E) (hl:l=E.length) (hi:i < l) (hj:j=i+1) (hls:l≤90000) :
  Calls Tryz.prog 272 #[.slice f l c,.int .i64 i,.int .i64 j] w fun r w'=>r=.returned (.slice f (i+(l - j)) c)∧OwnR KE w' base (.slice f (i+(l - j)) c) (drop9 E i)∧w.grownBy w' (Value.slice f l c).ownBlock:=by
 subst hj
 obtain ⟨g,rfl,hbg,hgs,_⟩:=hO.there (by omega)
 obtain ⟨hlc,hcm⟩:=hO.room
 have hML:l - (i+1)=(E.drop (i+1)).length:=by rw [List.length_drop];omega
 have hR:=hO.rows.2
 obtain ⟨A,hA,hsrc⟩:∃ A:Addr,(if c=i+1 then (some ⟨g,0,none⟩:Option Addr) else some ⟨g,0+(i+1) * 14,none⟩)=some A∧Hid (∀ t u,(rcells KE (E.drop (i+1)))[t]?=some u→w.drew.cell? (A.add t)=some u):=by
  by_cases h:c=i+1
  ·refine ⟨⟨g,0,none⟩,if_pos h,fun t u hu=>?_⟩
   rw [List.drop_eq_nil_of_le (by omega)] at hu
   simp [rcells] at hu
  ·refine ⟨⟨g,0+(i+1) * 14,none⟩,if_neg h,fun t u hu=>?_⟩
   have ht:t < (E.drop (i+1)).length * 14:=by
    have:=(List.getElem?_eq_some_iff.1 hu).1
    rwa [rcells_length] at this
   have hq:t / 14 < (E.drop (i+1)).length:=Nat.div_lt_of_lt_mul (by omega)
   have hx:(E.drop (i+1))[t / 14]?=some (E.drop (i+1))[t / 14]:=List.getElem?_eq_getElem hq
   have hdm:t=t / 14 * 14+t % 14:=by omega
   have hc:=rcells_get KE (E.drop (i+1)) (t / 14) _ hx (t % 14) (Nat.mod_lt _ (by decide))
   rw [show t / 14 * KE.N+t % 14=t from hdm.symm] at hc
   rw [hc] at hu
   obtain ⟨b,o,he,hr⟩:=(hR.from' (i+1)) (t / 14) _ hx
   simp only [Option.some.injEq,Addr.mk.injEq,and_true] at he
   obtain ⟨rfl,rfl⟩:=he
   have h3:=hr.c (t % 14) (Nat.mod_lt _ (by decide))
   rw [Addr.add_lit,show 0+(i+1) * 14+t=0+(i+1) * KE.N+t / 14 * KE.N+t % 14 from by show 0+(i+1) * 14+t=0+(i+1) * 14+t / 14 * 14+t % 14;omega]
   exact h3.trans hu
 have s1:=Lib.hid (show (rcells KE (E.drop (i+1))).length=(l - (i+1)) * 14 from by rw [hML];exact rcells_length KE _)
 have s2:=Lib.hid (rcells_one KE (E.drop (i+1)))
 have s3:Hid (∀ t,t < (rcells KE (E.drop (i+1))).length→(w.drew.cell? ⟨g,0+i * 14+t,none⟩).isSome=true∧w.drew.frozen? ⟨g,0+i * 14+t,none⟩=false):=by
  intro t ht
  rw [s1.out] at ht
  exact hO.cell (0+i * 14+t) (by show 0+i * 14+t < c * 14;omega)
 have O1:Hid (OwnR KE (w.drew.setCells g (0+i * 14) (rcells KE (E.drop (i+1)))) base (.slice (some ⟨g,0,none⟩) (i+(l - (i+1))) c) (drop9 E i)):=by
  have:=(hO.drew).laid i (E.drop (i+1)) (by omega) (by omega)
  rw [← hML] at this
  rw [Nat.zero_add]
  exact this
 have G1:Hid (w.grownBy (w.drew.setCells g (0+i * 14) (rcells KE (E.drop (i+1)))) (some g)):=by
  have h1:=grownBy_setCells (w:=w.drew) (g:=g) (rcells KE (E.drop (i+1))) (0+i * 14)
  exact ⟨h1.os,h1.tape,h1.output,h1.size,h1.block⟩
 obtain ⟨W1,hW1⟩:∃ W1,W1=w.drew.setCells g (0+i * 14) (rcells KE (E.drop (i+1))):=⟨_,rfl⟩
 rw [← hW1] at O1 G1
 obtain ⟨zs,hzs⟩:∃ zs,zs=KE.z.cells.toList:=⟨_,rfl⟩
 have hzl:zs.length=14:=by rw [hzs];rfl
 have O2:=Lib.hid (O1.out.past zs (by show (i+(l - (i+1))) * 14+zs.length≤c * 14;omega))
 have G2:Hid (w.grownBy (W1.setCells g ((i+(l - (i+1))) * KE.N) zs) (some g)):=by
  exact G1.out.trans (grownBy_setCells zs _)
 have hcl:∀ ty,(Builtin.clear_ #[74] ty #[.slice (some ⟨g,0+(i+(l - (i+1))) * 14,none⟩) (l - (i+(l - (i+1)))) (c - (i+(l - (i+1))))]).run Tryz.prog W1=.ok (.tuple #[]) (W1.setCells g ((i+(l - (i+1))) * KE.N) zs):=by
  intro ty
  have hst:=run_storeCells_cells (P:=Tryz.prog) g ((i+(l - (i+1))) * 14) zs 0 W1 (fun j hj=>(O1.out.cell _ (by show (i+(l - (i+1))) * 14+0+j < c * 14;omega)).1) (fun j hj=>(O1.out.cell _ (by show (i+(l - (i+1))) * 14+0+j < c * 14;omega)).2) (by rw [hzs];decide)
  simp only [Nat.add_zero] at hst
  rw [show l - (i+(l - (i+1)))=0+1 by omega,Nat.zero_add ((i+(l - (i+1))) * 14)]
  have hzv:∀ w:World,(zeroValue 121).run Tryz.prog w=.ok KE.z w:=fun w=>rfl
  have hzc:(Builtin.zeroCells KE.z.cells 1).toList=zs:=by rw [hzs];kernel_rfl
  simp [Builtin.clear_,run_underlying Tryz.underlying74,hzv,hzc,hst]
  rfl
 have hne:((i:Int)==((i+1:Nat):Int))=false:=by simp;omega
 have hic:i≤c:=by omega
 have hW:Hid (W1=w.drew.setCells g (0+i * 14) (rcells KE (E.drop (i+1)))):=hW1
 show Calls Tryz.prog 272 #[.slice (some ⟨g,0,none⟩) l c,.int .i64 i,.int .i64 ((i+1:Nat):Int)] w _
 obtain ⟨j,hj⟩:∃ j,j=i+1:=⟨_,rfl⟩
 have hj1:i < j:=by omega
 have hj2:j≤l:=by omega
 have hjc:j≤c:=by omega
 rw [← hj] at s1 hsrc s2 s3 O2 G2 hcl hA hW hne ⊢
 simp only [Nat.zero_add] at hA hcl
 clear hW1 hO hR hML hj hl hzs
 go_enter Tryz.func272,Tryz.ntmps272
 go_wp2_with fail
 go_region_law (refine step_append_room rfl (.tmp 22) (.tmp 25) 74 rfl 121 _ 14 Tryz.underlying74 (by rfl) rfl g 0 i c (by simp [Act.eval,Act.put]) A (l - j) (c - j) (rcells KE (E.drop j)) (by simp [Act.eval,Act.put,hA]) s1.out hsrc.out s2.out (by omega) s3.out ?_;rw [← hW.out])
 go_wp2
 go_ret
 exact ⟨rfl,O2.out,G2.out⟩
end Go.Proofs.YtlgpdbgingjpbaaGreat
