/- The engine: loops over a row of structs that is handed in;what a loop tells besides blocks. The engine: a struct that holds a row of numbers: what a call leaves that turns both. -/
import Derived.Test.YtlgpdbgingjpbaaGreatSq
import Derived.Test.YtlgpdbgingjpbaaGreatKt
import Derived.Test.YtlgpdbgingjpbaaGreatGb
set_option linter.all false
namespace Go.Proofs.YtlgpdbgingjpbaaGreat
section
open Go.ChangeShapes Go.WideShapes Go.ChangeAt Go.RowKit Go.Deep
theorem Fits.rows {Q:Type} {K:RowK Q} {ft:List Nat} {w0 w:World} {h:List Bx} {f:Option Addr} {L:List Q} {j:Nat} {q:Q} (H:Fits ft w0 h w) (hX:RowsAt K w0 f L) (hq:L[j]?=some q) (hV:(K.V q).size≤K.N) (hb:∀ g,f=some g→g.block ∉ ft) :
  ∃ b o,f=some ⟨b,o,none⟩∧Fits ft w0 (h++[⟨b,o+j * K.N,K.t,(K.V q).toList,.row⟩]) w:=by
 obtain ⟨b,o,rfl,hr⟩:=hX j q hq
 have hlt:b < w0.heap.size:=hr.lt
 have hbf:b ∉ ft:=hb _ rfl
 refine ⟨b,o,rfl,H.row (Nat.lt_of_lt_of_le hlt H.keep.size) (fun i v hi=>?_) fun i x hi hx=>?_⟩
 ·have hi':(K.V q)[i]?=some v:=by simpa using hi
  exact (World.cell?_of_block (w:=w0) (a:=⟨b,o+j * K.N+i,none⟩) (H.keep.block b hlt hbf)).trans (hr.get i v (Nat.lt_of_lt_of_le (Array.getElem?_eq_some_iff.1 hi').1 hV) hi')
 ·rcases (H.all i x hi).fpl hx with h | h
  ·exact hbf h
  ·omega
theorem slice_opc {ft:List Nat} {w0 W:World} {k b off n c j N:Nat} {pre:BL} {E:Env} {ρ:Operand→Value} {o:Oper} {t:TypeId} {x y:Operand} (ho:o.op=.slice t x none (some y) none) (hx:[ρ x,ρ y]=[.slice (some ⟨b,off,none⟩) n c,.int .i64 j]) (hk:Keep ft w0 W)
  (hu:Tryz.prog.underlying t=some (.slice (Tryz.prog.elem t))) (hi:(Tryz.prog.info? (Tryz.prog.elem t)).map (·.size)=some N) (hj:j≤c) :
  ∃ x' q w',(execOp ρ o).run Tryz.prog W=.ok (.value x') w'∧GPost ft w0 k (fun _=>.slice (some ⟨b,off,none⟩) j c) pre [] [] E W (.returned x') w' q:=by
 refine opc_same hk ?_
 simp only [List.cons.injEq,and_true] at hx
 have hsz:(sizeOf (Tryz.prog.elem t)).run Tryz.prog W=.ok N W:=by
  cases hq:Tryz.prog.info? (Tryz.prog.elem t) with
  | none=>simp [hq] at hi
  | some i=>
   have:i.size=N:=by simpa [hq] using hi
   simp [sizeOf,typeInfo,hq,this]
 unfold execOp
 simp only [ho,Option.map_none,Option.map_some,hx.1,hx.2,Sem.run_bind,run_sliceAt_slice W t _ _ _ _ hu,run_slice_h W t (some ⟨b,off,none⟩) n c hu .i64 (j:Int) (by omega) (by omega),hsz,Result.andThen_ok,Sem.run_pure]
 simp [sliced,Addr.add]
theorem Fits.pure {ft:List Nat} {w0 w:World} {h:List Bx} {P:Prop} (H:Fits ft w0 h w) (hP:P):Fits ft w0 (h++[⟨0,0,0,[],.fact none fun _=>P⟩]) w:=by
 have key:∀ {i:Nat} {x:Bx},(h++[⟨0,0,0,[],.fact none fun _=>P⟩])[i]?=some x→h[i]?=some x∨x=⟨0,0,0,[],.fact none fun _=>P⟩:=fun {i x} hi=>by
  rw [List.getElem?_append] at hi
  split at hi
  ·exact Or.inl hi
  ·have hi':i - h.length=0:=by
    have:=(List.getElem?_eq_some_iff.1 hi).1
    simpa using this
   rw [hi'] at hi
   exact Or.inr (by simpa using hi.symm)
 refine ⟨H.keep,fun i x hi=>?_,fun i j x y hi hj hij c hx hy=>?_⟩
 ·rcases key hi with h | rfl
  ·exact H.all i x h
  ·exact ⟨rfl,(fun _ h=>nomatch h),hP,fun _ _ h _ _=>h⟩
 ·rcases key hi with h1 | rfl
  ·rcases key hj with h2 | rfl
   ·exact H.ne i j x y h1 h2 hij c hx hy
   ·cases hy
  ·cases hx
def roAt:List Bool→List Bx→List Bx
 | b :: l,x :: h=>(match b with | true=>x.ro | false=>x) :: roAt l h
 | _,h=>h
theorem Bx.ro_rd {x:Bx} {c:Nat} (h:x.ro.rd c):x.rd c:=by
 obtain ⟨b,o,t,cs,k⟩:=x
 cases k<;>first | exact h | cases h
theorem roAt_get:∀ {l:List Bool} {h:List Bx} {i:Nat} {z:Bx},(roAt l h)[i]?=some z→∃ x,h[i]?=some x∧(z=x∨z=x.ro)
 | [],h,i,z,hz=>⟨z,by cases h<;>exact hz,Or.inl rfl⟩
 | b :: l,[],i,z,hz=>by simp [roAt] at hz
 | b :: l,x :: h,0,z,hz=>by
  refine ⟨x,rfl,?_⟩
  cases b<;>simp [roAt] at hz<;>simp [hz]
 | b :: l,x :: h,i+1,z,hz=>by
  simp only [roAt,List.getElem?_cons_succ] at hz ⊢
  exact roAt_get hz
theorem Fits.roAt {ft:List Nat} {w0 w:World} {h:List Bx} (H:Fits ft w0 h w) (l:List Bool):Fits ft w0 (roAt l h) w:=by
 refine ⟨H.keep,fun i z hz=>?_,fun i j z y hz hy hij c hzc hyc=>?_⟩
 ·obtain ⟨x,hx,rfl | rfl⟩:=roAt_get hz
  ·exact H.all i _ hx
  ·have hx':=H.ro.all i x.ro (by rw [List.getElem?_map,hx];rfl)
   obtain ⟨b,o,t,cs,k⟩:=x
   cases k<;>exact hx'
 ·obtain ⟨x,hx,hxz⟩:=roAt_get hz
  obtain ⟨u,hu,huy⟩:=roAt_get hy
  have hx':x.fp c:=by
   rcases hxz with rfl | rfl
   ·exact hzc
   ·obtain ⟨b,o,t,cs,k⟩:=x
    cases k<;>cases hzc
  have hu':u.rd c:=by
   rcases huy with rfl | rfl
   ·exact hyc
   ·exact Bx.ro_rd hyc
  exact H.ne i j x u hx hu hij c hx' hu'
theorem Fits.head {ft:List Nat} {w0 w:World} {x:Bx} {h:List Bx} (H:Fits ft w0 (x :: h) w):Fits ft w0 [x] w:=by
 refine ⟨H.keep,fun i z hz=>?_,fun i j z y hz hy hij=>?_⟩
 ·cases i with
  | zero=>exact H.all 0 z hz
  | succ i=>simp at hz
 ·cases i with
  | zero=>
   cases j with
   | zero=>exact absurd rfl hij
   | succ j=>simp at hy
  | succ i=>simp at hz
theorem RowsAt.ne {Q:Type} {K:RowK Q} {w:World} {f:Option Addr} {L:List Q} {b:Nat} (h:RowsAt K w f L) (hl:0 < L.length) (hb:b∈([]:List Nat)∨w.heap.size≤b):∀ g,f=some g→g.block≠b:=fun g hg=>by
 obtain ⟨b1,o1,rfl,hr⟩:=h 0 L[0] (List.getElem?_eq_getElem hl)
 obtain rfl:=Option.some.inj hg
 have:=hr.lt
 rcases hb with hb | hb
 ·cases hb
 ·show b1≠b
  omega
theorem CPost.told {n:Nat} {ft:List Nat} {w0 W w':World} {k:Nat} {pre:BL} {T':Env→Sl} {E:Env} {a':Act} {P:Prop} (hP:P) (hk:Keep ft w0 W) (hk':Keep [] W w') (hT:Has n (T' (E.set k (0,none))) a'):∃ q,CPost n ft w0 k pre T' [] [fun _=>.one fun _=>P] E W a' w' q:=
 ⟨fun _=>(0,none),hT,rfl,fun _ hp=>(by cases hp),hk.under hk' (fun _ h=>by cases h),hk'.size,fun j hj _=>hk'.block j hj (by simp),fun j p hj=>by
  obtain ⟨rfl,rfl⟩:0=j∧(fun _:Env=>FV.one fun _=>P)=p:=by
   cases j with
   | zero=>exact ⟨rfl,Option.some.inj hj⟩
   | succ j=>simp at hj
  exact ⟨hP,fun _ _ h _ _=>h,fun b hb=>nomatch hb⟩⟩
theorem CPost.told1 {n:Nat} {ft:List Nat} {w0 W w':World} {k i b:Nat} {t:TypeId} {cs:List Value} {T':Env→Sl} {rest:BL} {x0 x1:Env→Bx} {E:Env} {a':Act} {P:Prop} (hP:P) (hk:Keep ft w0 W) (hp:∀ p∈(i,x0) :: rest,(p.2 E).Holds ft w0 W) (h0:(x0 E).fp=oneS b) (h1:x1 (E.set k (0,none))=⟨b,0,t,cs,.own⟩) (hr:∀ p∈rest,p.1≠i)
  (hT:Has n (T' (E.set k (0,none))) a') (hF:Fits [b] W [⟨b,0,t,cs,.own⟩] w'):∃ q,CPost n ft w0 k ((i,x0) :: rest) T' [(i,x1)] [fun _=>.one fun _=>P] E W a' w' q:=by
 refine ⟨fun _=>(0,none),hT,?_⟩
 refine GPost.fin0 (ft:=[b]) (k:=k) (v:=fun _=>undef) (e:=.returned undef) (pre:=(i,x0) :: rest) (post:=[(i,x1)]) (new:=[fun _=>.one fun _=>P]) (fun _=>(0,none)) hk hp (fun c hc=>by
  obtain rfl:=List.mem_singleton.1 hc
  exact ⟨_,List.mem_cons_self ..,by rw [h0];rfl,by simp⟩) (fun p hp' p' hp'' hpe=>by
  obtain rfl:=List.mem_singleton.1 hp''
  rcases List.mem_cons.1 hp' with rfl | hp'
  ·refine Or.inr ?_
   show (x1 (E.set k (0,none))).fp=(x0 E).fp
   rw [h1,h0]
   rfl
  ·exact absurd hpe.symm (hr p hp')) rfl (by
  show Fits [b] W ([x1 (E.set k (0,none))]++[⟨0,0,0,[],.fact none fun _=>P⟩]) w'
  rw [h1]
  exact hF.pure hP)
end
section
open Go.ChangeShapes Go.WideShapes Go.ChangeAt Go.RowKit Go.Deep
def RowEnd (ft:List Nat) (W:World) (b:Nat) (t:TypeId) (mk:Value→List Value) (v:Value) (R:List Int) (e:Ending) (w':World):Prop:=
 ∃ f c,e=.returned v∧Fits ft W [⟨b,0,t,mk (.slice f R.length c),.own⟩,ownFx 3 1 f R.length c (icells R)] w'
theorem Fits.gap1 {ft:List Nat} {w1 w2:World} {x y:Bx} (H:Fits ft w1 [x,y] w2):Fits ft w1 [x,noBx,y] w2:=by
 have key:∀ (i:Nat) (z:Bx),[x,noBx,y][i]?=some z→z=noBx∨∃ i',[x,y][i']?=some z∧i=(if i'=0 then 0 else i'+1):=fun i z hz=>by
  rcases i with _ | _ | _ | i
  ·exact Or.inr ⟨0,hz,rfl⟩
  ·exact Or.inl (Option.some.inj hz).symm
  ·exact Or.inr ⟨1,hz,rfl⟩
  ·simp at hz
 refine ⟨H.keep,fun i z hz=>?_,fun i j z u hz hu hij c hzc huc=>?_⟩
 ·rcases key i z hz with rfl | ⟨i',h,_⟩
  ·rfl
  ·exact H.all i' z h
 ·rcases key i z hz with rfl | ⟨i',h,hi⟩
  ·cases hzc
  ·rcases key j u hu with rfl | ⟨j',h',hj⟩
   ·cases huc
   ·exact H.ne i' j' z u h h' (fun e=>hij (by rw [hi,hj,e])) c hzc huc
theorem Fits.nilrow {ft:List Nat} {w0 w:World} {h:List Bx} (H:Fits ft w0 h w) (t:TypeId) (s:Nat):Fits ft w0 (h++[ownFx t s none 0 0 []]) w:=by
 have key:∀ {i:Nat} {x:Bx},(h++[ownFx t s none 0 0 []])[i]?=some x→h[i]?=some x∨x=ownFx t s none 0 0 []:=fun {i x} hi=>by
  rw [List.getElem?_append] at hi
  split at hi
  ·exact Or.inl hi
  ·have hi':i - h.length=0:=by
    have:=(List.getElem?_eq_some_iff.1 hi).1
    simpa using this
   rw [hi'] at hi
   exact Or.inr (by simpa using hi.symm)
 refine ⟨H.keep,fun i x hi=>?_,fun i j x y hi hj hij c hx hy=>?_⟩
 ·rcases key hi with h | rfl
  ·exact H.all i x h
  ·exact ⟨rfl,(fun _ h=>nomatch h),World.ownsRow_nil _ _ _ _,OwnP.local _ _ _ _ _ _⟩
 ·rcases key hi with h1 | rfl
  ·rcases key hj with h2 | rfl
   ·exact H.ne i j x y h1 h2 hij c hx hy
   ·cases hy
  ·cases hx
theorem RowEnd.post {ft0:List Nat} {w0 W w':World} {k:Nat} {E:Env} {e:Ending} {b iW iR:Nat} {t:TypeId} {cs:List Value} {fR:Option Addr} {nR cR:Nat} {xsR:List Value} {xW xR xW':Env→Bx} {gR:Env→FV} {mk:Value→List Value} {v:Value} {Rs:List Int} {rest:BL}
  (hk:Keep ft0 w0 W) (hp:∀ p∈(iW,xW) :: (iR,xR) :: rest,(p.2 E).Holds ft0 w0 W) (h:RowEnd (b :: (fR.map (·.block)).toList) W b t mk v Rs e w')
  (hd:iW≠iR:=by decide) (hr:∀ p∈rest,p.1≠iW:=by simp) (hW:xW E=⟨b,0,t,cs,.own⟩:=by rfl) (hR:xR E=ownFx 3 1 fR nR cR xsR:=by rfl)
  (hW':∀ q,xW' (envN [gR] E k q)=⟨b,0,t,mk (.slice (q k).2 Rs.length (q k).1),.own⟩:=by exact fun _=>rfl)
  (hR':∀ q,gR (envN [gR] E k q)=OwnP 3 1 (q k).2 Rs.length (q k).1 (icells Rs):=by exact fun _=>rfl) :
  ∃ q,GPost ft0 w0 k (fun _=>v) ((iW,xW) :: (iR,xR) :: rest) [(iW,xW'),(iR,fun _=>noBx)] [gR] E W e w' q:=by
 obtain ⟨aR,kR,he,hF⟩:=h
 have hW':=hW' (fun _=>(kR,aR))
 have hR':=hR' (fun _=>(kR,aR))
 refine GPost.fin (ft:=b :: (fR.map (·.block)).toList) (fun _=>(kR,aR)) hk hp (fun x hx=>?_) (fun p hpp p' hp' hi=>?_) he ?_
 ·simp only [List.mem_cons,Option.mem_toList] at hx
  rcases hx with rfl | hx
  ·exact ⟨(iW,xW),by simp,fp_of hW rfl,by simp⟩
  ·exact ⟨(iR,xR),by simp,fp_of hR hx,by simp⟩
 ·simp only [List.mem_cons,List.not_mem_nil,or_false] at hpp hp'
  rcases hp' with rfl | rfl
  ·rcases hpp with rfl | rfl | hpp
   ·exact Or.inr ((congrArg Bx.fp hW').trans (congrArg Bx.fp hW).symm)
   ·exact absurd hi hd
   ·exact absurd hi.symm (hr _ hpp)
  ·exact Or.inl rfl
 ·show Fits (b :: (fR.map (·.block)).toList) W [xW' (envN [gR] E k fun _=>(kR,aR)),noBx,(gR (envN [gR] E k fun _=>(kR,aR))).bx aR] w'
  rw [hW',hR']
  exact hF.gap1
theorem RowEnd.post0 {ft0:List Nat} {w0 W w':World} {k:Nat} {E:Env} {e:Ending} {b iW:Nat} {t:TypeId} {cs:List Value} {xW xW':Env→Bx} {gR:Env→FV} {mk:Value→List Value} {v:Value} {Rs:List Int}
  (hk:Keep ft0 w0 W) (hp:∀ p∈[(iW,xW)],(p.2 E).Holds ft0 w0 W) (h:RowEnd [b] W b t mk v Rs e w') (hW:xW E=⟨b,0,t,cs,.own⟩:=by rfl)
  (hW':∀ q,xW' (envN [gR] E k q)=⟨b,0,t,mk (.slice (q k).2 Rs.length (q k).1),.own⟩:=by exact fun _=>rfl)
  (hR':∀ q,gR (envN [gR] E k q)=OwnP 3 1 (q k).2 Rs.length (q k).1 (icells Rs):=by exact fun _=>rfl) :
  ∃ q,GPost ft0 w0 k (fun _=>v) [(iW,xW)] [(iW,xW')] [gR] E W e w' q:=by
 obtain ⟨aR,kR,he,hF⟩:=h
 have hW':=hW' (fun _=>(kR,aR))
 have hR':=hR' (fun _=>(kR,aR))
 refine GPost.fin (ft:=[b]) (fun _=>(kR,aR)) hk hp (fun x hx=>?_) (fun p hpp p' hp' hi=>?_) he ?_
 ·obtain rfl:=List.mem_singleton.1 hx
  exact ⟨(iW,xW),by simp,fp_of hW rfl,by simp⟩
 ·obtain rfl:=List.mem_singleton.1 hpp
  obtain rfl:=List.mem_singleton.1 hp'
  exact Or.inr ((congrArg Bx.fp hW').trans (congrArg Bx.fp hW).symm)
 ·show Fits [b] W [xW' (envN [gR] E k fun _=>(kR,aR)),(gR (envN [gR] E k fun _=>(kR,aR))).bx aR] w'
  rw [hW',hR']
  exact hF
theorem pushI_opc {ft:List Nat} {w0 W:World} {E:Env} {ρ:Operand→Value} {o:Oper} {s x:Operand} (ho:o.op=.call ⟨.builtin .append,#[s,x],#[44,44]⟩) {i k:Nat} {L M:List Int} {c d:Nat} {f g:Option Addr} {rest:BL} {x0:Env→Bx} (hx:[ρ s,ρ x]=[.slice f L.length c,.slice g M.length d]) (hk:Keep ft w0 W)
  (hp:(ownFx 3 1 f L.length c (icells L)).Holds ft w0 W) (hsrc:OwnP 3 1 g M.length d (icells M) W) (hlen:L.length+M.length≤1000000) (h0:x0 E=ownFx 3 1 f L.length c (icells L):=by rfl) :
  ∃ r q w',(execOp ρ o).run Tryz.prog W=.ok (.value r) w'∧GPost ft w0 k (fun E=>.slice (E.f k) (L++M).length (E.b k)) ((i,x0) :: rest) [(i,fun _=>noBx)] [fun E=>OwnP 3 1 (E.f k) (L++M).length (E.b k) (icells (L++M))] E W (.returned r) w' q:=by
 rw [icells_append,List.length_append]
 exact pushR_opc 44 3 Tryz.underlying44 (z:=.int .i64 0) (size:=1) (bytes:=8) (by kernel_rfl) rfl (by decide) (by decide) ho i k L.length M.length (icells L) (icells M) x0 h0 hx hk (by rw [h0];exact hp) hsrc (icells_one M) hlen
theorem pushN_opc {ft:List Nat} {w0 W:World} {E:Env} {ρ:Operand→Value} {o:Oper} {s x:Operand} (ho:o.op=.call ⟨.builtin .append,#[s,x],#[44,44]⟩) {i k:Nat} {L:List Int} {n:Int} {c d b:Nat} {f:Option Addr} {x0:Env→Bx} {bx:Nat×(Env→Bx)} (hx:[ρ s,ρ x]=[.slice f L.length c,.slice (some ⟨b,0,none⟩) 1 d]) (hk:Keep ft w0 W)
  (hp:∀ p∈[(i,x0),bx],(p.2 E).Holds ft w0 W) (hbx:bx.2 E=⟨b,0,3,[.int .i64 n],.own⟩) (hlen:L.length+1≤1000000) (h0:x0 E=ownFx 3 1 f L.length c (icells L):=by rfl) :
  ∃ r q w',(execOp ρ o).run Tryz.prog W=.ok (.value r) w'∧GPost ft w0 k (fun E=>.slice (E.f k) (L++[n]).length (E.b k)) [(i,x0),bx] [(i,fun _=>noBx)] [fun E=>OwnP 3 1 (E.f k) (L++[n]).length (E.b k) (icells (L++[n]))] E W (.returned r) w' q:=by
 have hbox:=hp bx (List.mem_cons_of_mem _ (List.mem_singleton.2 rfl))
 have hrow:(x0 E).Holds ft w0 W:=hp (i,x0) (List.mem_cons_self ..)
 have hown:=hrow
 rw [h0] at hown
 rw [hbx] at hbox
 simp only [List.cons.injEq,and_true] at hx
 rw [icells_append,List.length_append]
 obtain ⟨f',c',w',hr,hown',hg,hat⟩:=run_append_at (P:=Tryz.prog) (W:=W) 44 o.type 3 (z:=.int .i64 0) (size:=1) (bytes:=8) Tryz.underlying44 (by kernel_rfl) rfl (by decide) (by decide) hown.2.2.1 (a:=⟨b,0,none⟩) (m:=1) (d:=d) (news:=[.int .i64 n]) rfl (fun j u hj=>by
  have hB:BoxAt W b #[.int .i64 n] 3:=⟨hbox.2.2⟩
  rw [add_none,Nat.zero_add]
  exact hB.get j u (by simpa using hj)) (fun u hu=>by obtain rfl:=List.mem_singleton.1 hu;rfl) hlen (by decide)
 obtain ⟨q,hq⟩:=GPost.grown (k:=k) (v:=fun E=>.slice (E.f k) (L.length+1) (E.b k)) (rest:=[bx]) (e:=.returned (.slice f' (L.length+1) c')) x0 h0 hk hrow hown' hg hat (by rw [set_f,set_c])
 refine ⟨.slice f' (L.length+1) c',q,w',?_,hq⟩
 unfold execOp
 simp only [ho,resolve,invoke,builtin,Sem.run_bind,Sem.run_pure,Result.andThen_ok,List.map_toArray,List.map_cons,List.map_nil,hx.1,hx.2,hr]
end
end Go.Proofs.YtlgpdbgingjpbaaGreat
