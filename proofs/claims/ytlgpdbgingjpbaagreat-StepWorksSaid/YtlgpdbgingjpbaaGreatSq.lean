/- The engine: an element of a row that is a fact: its place,its cells;a fit,seen from here. An argument that is a slice of structs,opened: rows of cells,whatever the struct. The engine,for laws: a row of questions. The engine: blocks that a callee makes and hands out by a pointer;blocks that a callee turns. Arguments that hold slices,opened: sizes,rows of structs,words and numbers. -/
import Derived.Test.YtlgpdbgingjpbaaGreatEb
import Derived.Deep.MidRow
import Derived.Test.YtlgpdbgingjpbaaGreatDb
import Derived.Test.YtlgpdbgingjpbaaGreatEw
import Derived.Test.YtlgpdbgingjpbaaGreatMemB
import Derived.SizedLaws
set_option linter.all false
namespace Go.Proofs.YtlgpdbgingjpbaaGreat
section
open Go.ChangeShapes Go.WideShapes Go.ChangeAt Go.RowKit Go.Deep
def blkOf:Option Addr→Nat
 | some a=>a.block
 | none=>0
theorem OwnP.at {e:TypeId} {size:Nat} {f:Option Addr} {n c:Nat} {xs:List Value} {W:World} (h:OwnP e size f n c xs W) (hn:0 < n):f=some ⟨blkOf f,0,none⟩∧∀ j v,xs[j]?=some v→W.cell? ⟨blkOf f,j,none⟩=some v:=by
 rcases h.2 with ⟨_,h0⟩ | ⟨g,cap,cur,hv,_⟩
 ·omega
 ·injection hv with hf
  subst hf
  refine ⟨rfl,fun j v hj=>?_⟩
  have:=h.cells (g:=g) rfl j v hj
  rwa [add_none,Nat.zero_add] at this
theorem opc_same {P:Program} {ft:List Nat} {w0 W:World} {k:Nat} {v:Env→Value} {pre:BL} {E:Env} {ρ:Operand→Value} {o:Oper} (hk:Keep ft w0 W) (h:(execOp ρ o).run P W=.ok (.value (v E)) W) :
  ∃ x q w',(execOp ρ o).run P W=.ok (.value x) w'∧GPost ft w0 k v pre [] [] E W (.returned x) w' q:=
 ⟨v E,fun _=>(0,none),W,h,rfl,fun _ hp=>(by cases hp),hk,Nat.le_refl _,fun _ _ _=>rfl,fun _ _ hp=>(by simp at hp)⟩
theorem ix_opc {P:Program} {ft:List Nat} {w0 W:World} {k n N:Nat} {j:Int} {c:Nat} {f:Option Addr} {v:Env→Value} {pre:BL} {E:Env} {ρ:Operand→Value} {o:Oper} {t e:TypeId} {s i:Operand} {xs:List Value} {size:Nat} (ho:o.op=.indexAddr t s i) (hx:[ρ s,ρ i]=[.slice f n c,.int .i64 j]) (hk:Keep ft w0 W)
  (hu:P.underlying t=some (.slice e)) (hi:(P.info? e).map (·.size)=some N) (hP:OwnP e size f n c xs W) (h0:0≤j) (h1:j < n) (hv:v E=.pointer (some ⟨blkOf f,j.toNat * N,none⟩)) :
  ∃ x q w',(execOp ρ o).run P W=.ok (.value x) w'∧GPost ft w0 k v pre [] [] E W (.returned x) w' q:=by
 refine opc_same hk ?_
 rw [hv]
 simp only [List.cons.injEq,and_true] at hx
 obtain ⟨hf,_⟩:=hP.at (by omega)
 have he:P.elem t=e:=by simp [Program.elem,hu]
 have hsz:(sizeOf (P.elem t)).run P W=.ok N W:=by
  rw [he]
  cases hq:P.info? e with
  | none=>simp [hq] at hi
  | some i=>
   have:i.size=N:=by simpa [hq] using hi
   simp [sizeOf,typeInfo,hq,this]
 have hr:(Instr.indexAt t (.slice f n c) (.int .i64 j)).run P W=.ok (.pointer (some ⟨blkOf f,j.toNat * N,none⟩)) W:=by
  rw [hf]
  simp only [run_indexAt_slice W t _ _ _ _ _ (by rw [he];exact hu)]
  rw [if_pos ⟨h0,h1⟩,hsz]
  simp [Addr.add,blkOf]
  exact fun h=>h.symm
 unfold execOp
 simp only [ho,hx.1,hx.2,Sem.run_bind,hr,Result.andThen_ok,Sem.run_pure]
theorem ldN_opc {P:Program} {ft:List Nat} {w0 W:World} {k n c d':Nat} {f:Option Addr} {pre:BL} {E:Env} {ρ:Operand→Value} {o:Oper} {t e:TypeId} {p:Operand} {xs cs:List Value} {size:Nat} {d:TypeDesc} (ho:o.op=.load t p) (hx:[ρ p]=[.pointer (some ⟨blkOf f,c,none⟩)]) (hk:Keep ft w0 W)
  (hu:P.underlying t=some d) (hd:d.isRow=true) (hi:(P.info? t).map (·.size)=some cs.length) (hP:OwnP e size f n d' xs W) (hn:0 < n) (hv:∀ j u,cs[j]?=some u→xs[c+j]?=some u) :
  ∃ x q w',(execOp ρ o).run P W=.ok (.value x) w'∧GPost ft w0 k (fun _=>.agg cs.toArray) pre [] [] E W (.returned x) w' q:=by
 refine opc_same hk ?_
 simp only [List.cons.injEq,and_true] at hx
 have hr:=run_loadVar_mid (P:=P) W (blkOf f) c t cs d (fun j u hj=>(hP.at hn).2 (c+j) u (hv j u hj)) hu hd hi
 unfold execOp
 simp only [ho,hx,Instr.loadAt,Instr.sureAddr,Sem.run_bind,Sem.run_pure,Result.andThen_ok,hr]
theorem Fits.self {ft ft':List Nat} {w0 W:World} {h:List Bx} (H:Fits ft w0 h W) (hf:∀ (i:Nat) (x:Bx),h[i]?=some x→∀ b,x.fp b→b∈ft'):Fits ft' W h W:=by
 refine ⟨Keep.refl _ _,fun i x hi=>?_,H.ne⟩
 have hx:=H.all i x hi
 have hfx:=hf i x hi
 obtain ⟨b,o,t,cs,k⟩:=x
 cases k with
 | no=>exact hx
 | row=>exact hx
 | own=>exact ⟨hx.1,Or.inl (hfx b rfl),hx.2.2⟩
 | fact q p=>exact ⟨hx.1,fun b' hb=>⟨Or.inl (hfx b' hb),(hx.2.1 b' hb).2⟩,hx.2.2⟩
 | facts q p=>exact ⟨hx.1,fun b' hb=>⟨Or.inl (hfx b' hb),(hx.2.1 b' hb).2⟩,hx.2.2⟩
end
section
open Go.ChangeShapes Go.WideShapes Go.ChangeAt Go.RowKit Go.Deep
def InI (a:Int):Prop:=a≤9223372036854775807∧-9223372036854775808≤a
structure RowAt (W:World) (b o N:Nat) (cs:Array Value):Prop where
 lt:b < W.heap.size
 c:∀ j,j < N→W.cell? ⟨b,o+j,none⟩=cs[j]?
theorem RowAt.below {W w:World} {b o N:Nat} {cs:Array Value} (h:RowAt W b o N cs) (hb:Below W.heap.size W w):RowAt w b o N cs:=
 ⟨Nat.lt_of_lt_of_le h.lt hb.size,fun j hj=>(hb.cell (p:=⟨b,o+j,none⟩) h.lt).trans (h.c j hj)⟩
theorem RowAt.get {W:World} {b o N:Nat} {cs:Array Value} (h:RowAt W b o N cs) (j:Nat) (v:Value) (hj:j < N) (hv:cs[j]?=some v):W.cell? ⟨b,o+j,none⟩=some v:=(h.c j hj).trans hv
theorem RowAt.get0 {W:World} {b o N:Nat} {cs:Array Value} (h:RowAt W b o N cs) (v:Value) (hj:0 < N) (hv:cs[0]?=some v):W.cell? ⟨b,o,none⟩=some v:=(h.c 0 hj).trans hv
section
variable {H:Type} {enc:TypeId×Value→H} {w:World} {base:Nat} {held:Bool}
end
end
section
open Go.ChangeShapes Go.WideShapes Go.ChangeAt Go.RowKit Go.Deep
theorem mixedT:Tryz.prog.follows .mixedOrders=true:=by kernel_rfl
theorem ix_row {w:World} (ty e:TypeId) (g go n d k N:Nat) (hu:Tryz.prog.underlying ty=some (.slice e)) (hi:(Tryz.prog.info? e).map (·.size)=some N) (hk:k < n) :
  (Instr.indexAt ty (.slice (some ⟨g,go,none⟩) n d) (.int .i64 k)).run Tryz.prog w=.ok (.pointer (some ⟨g,go+k * N,none⟩)) w:=by
 have he:Tryz.prog.elem ty=e:=by simp [Program.elem,hu]
 have hsz:(sizeOf (Tryz.prog.elem ty)).run Tryz.prog w=.ok N w:=by
  rw [he]
  cases hq:Tryz.prog.info? e with
  | none=>simp [hq] at hi
  | some i=>
   have:i.size=N:=by simpa [hq] using hi
   simp [sizeOf,typeInfo,hq,this]
 simp only [run_indexAt_slice w ty _ _ _ _ _ (by rw [he];exact hu)]
 rw [if_pos ⟨by omega,by omega⟩,hsz]
 simp [Addr.add]
theorem below_same {f:FuncId} {args:Array Value} {w:World} {v:Value} (h:Calls Tryz.prog f args w fun e w'=>e=.returned v∧w=w'):Calls Tryz.prog f args w fun e w'=>e=.returned v∧Below w.heap.size w w':=
 h.mono fun _ _ ⟨he,hw⟩=>⟨he,hw ▸ Below.refl _ _⟩
end
section
open Go.ChangeShapes Go.WideShapes Go.ChangeAt Go.RowKit Go.Deep
def OwnB (t:TypeId) (cs:List Value) (f:Option Addr) (b:Nat) (W:World):Prop:=f.map (·.block)=some b∧W.heap[b]?=some (.cells cs.toArray t)
theorem OwnB.local (t:TypeId) (cs:List Value) (f:Option Addr) (b:Nat):Local (f.map (·.block)) (OwnB t cs f b):=by
 intro w w' h hb _
 exact ⟨h.1,(hb b h.1).trans h.2⟩
def BoxEnd (t:TypeId) (cs:List Value) (w:World) (e:Ending) (w':World):Prop:=
 ∃ b,e=.returned (.pointer (some ⟨b,0,none⟩))∧w.heap.size≤b∧w'.heap[b]?=some (.cells cs.toArray t)∧Below w.heap.size w w'
theorem BoxEnd.post {t:TypeId} {cs:List Value} {ft:List Nat} {w0 W w':World} {k:Nat} {pre:BL} {E:Env} {e:Ending} (h:BoxEnd t cs W e w') (hk:Keep ft w0 W) :
  ∃ q,GPost ft w0 k (fun E=>.pointer (some ⟨E.b k,0,none⟩)) pre [] [fun E=>OwnB t cs (E.f k) (E.b k)] E W e w' q:=by
 obtain ⟨b,he,hs,hb,hw⟩:=h
 refine GPost.made (fun _=>(b,some ⟨b,0,none⟩)) hk hw ?_ fun j p hj=>?_
 ·show e=.returned (.pointer (some ⟨(E.set k (b,some ⟨b,0,none⟩)).b k,0,none⟩))
  rw [set_c]
  exact he
 ·obtain ⟨rfl,rfl⟩:0=j∧_=p:=by
   cases j with
   | zero=>exact ⟨rfl,Option.some.inj hj⟩
   | succ j=>simp at hj
  have e1:OwnB t cs ((E.set k (b,some ⟨b,0,none⟩)).f k) ((E.set k (b,some ⟨b,0,none⟩)).b k)=OwnB t cs (some ⟨b,0,none⟩) b:=by rw [set_f,set_c]
  refine ⟨(congrFun e1 w').mpr ⟨rfl,hb⟩,(congrArg (Local (some b)) e1).mpr (OwnB.local t cs (some ⟨b,0,none⟩) b),fun c hc=>?_⟩
  obtain rfl:=Option.some.inj hc
  exact ⟨(Array.getElem?_eq_some_iff.1 hb).1,hs,fun j' h1 h2=>by simp at h1;omega⟩
theorem Fits.box {W:World} {b:Nat} {t:TypeId} {cs:List Value} (h:W.heap[b]?=some (.cells cs.toArray t)):Fits [b] W [⟨b,0,t,cs,.own⟩] W:=by
 refine ⟨Keep.refl _ _,fun i x hi=>?_,fun i j x y hi hj hij=>?_⟩
 ·cases i with
  | zero=>
   obtain rfl:(⟨b,0,t,cs,.own⟩:Bx)=x:=by simpa using hi
   exact ⟨rfl,Or.inl (List.mem_singleton.2 rfl),h⟩
  | succ i=>simp at hi
 ·cases i with
  | zero=>
   cases j with
   | zero=>exact absurd rfl hij
   | succ j=>simp at hj
  | succ i=>simp at hi
theorem Fits.boxR {W:World} {b:Nat} {t:TypeId} {cs:List Value} (h:W.heap[b]?=some (.cells cs.toArray t)):Fits [] W [⟨b,0,t,cs,.row⟩] W:=by
 have:=(Fits.box h).ro
 exact this
theorem Fits.row {ft:List Nat} {w0 w:World} {h:List Bx} {b o:Nat} {t:TypeId} {cs:List Value} (H:Fits ft w0 h w) (hlt:b < w.heap.size) (hc:∀ (j:Nat) (v:Value),cs[j]?=some v→w.cell? ⟨b,o+j,none⟩=some v) (hn:∀ (i:Nat) (x:Bx),h[i]?=some x→¬ x.fp b) :
  Fits ft w0 (h++[⟨b,o,t,cs,.row⟩]) w:=by
 have key:∀ {i:Nat} {x:Bx},(h++[⟨b,o,t,cs,.row⟩])[i]?=some x→h[i]?=some x∨(i=h.length∧x=⟨b,o,t,cs,.row⟩):=fun {i x} hi=>by
  rw [List.getElem?_append] at hi
  split at hi
  ·exact Or.inl hi
  ·rename_i hl
   have hi':i - h.length=0:=by
    have:=(List.getElem?_eq_some_iff.1 hi).1
    simpa using this
   rw [hi'] at hi
   exact Or.inr ⟨by omega,by simpa using hi.symm⟩
 refine ⟨H.keep,fun i x hi=>?_,fun i j x y hi hj hij c hx hy=>?_⟩
 ·rcases key hi with h | ⟨_,rfl⟩
  ·exact H.all i x h
  ·exact ⟨hlt,hc⟩
 ·rcases key hi with h1 | ⟨_,rfl⟩
  ·rcases key hj with h2 | ⟨_,rfl⟩
   ·exact H.ne i j x y h1 h2 hij c hx hy
   ·exact hn i x h1 (by obtain rfl:b=c:=Option.some.inj hy;exact hx)
  ·cases hx
theorem GPost.box1 {ft:List Nat} {w0 W w':World} {k i b:Nat} {t:TypeId} {cs:List Value} {v:Env→Value} {rest:BL} {x0 x1:Env→Bx} {E:Env} {e:Ending} (hk:Keep ft w0 W) (hp:∀ p∈(i,x0) :: rest,(p.2 E).Holds ft w0 W) (h0:(x0 E).fp=oneS b) (h1:x1 E=⟨b,0,t,cs,.own⟩) (hr:∀ p∈rest,p.1≠i)
  (he:e=.returned (v E)) (hF:Fits [b] W [⟨b,0,t,cs,.own⟩] w'):∃ q,GPost ft w0 k v ((i,x0) :: rest) [(i,x1)] [] E W e w' q:=by
 refine GPost.fin (ft:=[b]) (fun _=>(0,none)) hk hp (fun c hc=>?_) (fun p hp' p' hp'' hpe=>?_) he ?_
 ·obtain rfl:=List.mem_singleton.1 hc
  exact ⟨_,List.mem_cons_self ..,by rw [h0];rfl,by simp⟩
 ·obtain rfl:=List.mem_singleton.1 hp''
  rcases List.mem_cons.1 hp' with rfl | hp'
  ·refine Or.inr ?_
   show (x1 E).fp=(x0 E).fp
   rw [h1,h0]
   rfl
  ·exact absurd hpe.symm (hr p hp')
 ·show Fits [b] W [x1 E] w'
  rw [h1]
  exact hF
theorem CPost.box1 {n:Nat} {ft:List Nat} {w0 W w':World} {k i b:Nat} {t:TypeId} {cs:List Value} {T':Env→Sl} {rest:BL} {x0 x1:Env→Bx} {E:Env} {a':Act} (hk:Keep ft w0 W) (hp:∀ p∈(i,x0) :: rest,(p.2 E).Holds ft w0 W) (h0:(x0 E).fp=oneS b) (h1:x1 E=⟨b,0,t,cs,.own⟩) (hr:∀ p∈rest,p.1≠i)
  (hT:Has n (T' E) a') (hF:Fits [b] W [⟨b,0,t,cs,.own⟩] w'):∃ q,CPost n ft w0 k ((i,x0) :: rest) T' [(i,x1)] [] E W a' w' q:=by
 obtain ⟨q,hq⟩:=GPost.box1 (k:=k) (v:=fun _=>undef) (e:=.returned undef) hk hp h0 h1 hr rfl hF
 exact ⟨q,hT,hq⟩
theorem Fits.holds {ft:List Nat} {w0 W:World} {pre:BL} {E:Env} (H:Fits ft w0 (pre.map fun p=>p.2 E) W):∀ p∈pre,(p.2 E).Holds ft w0 W:=fun p hp=>by
 obtain ⟨i,hi⟩:=List.getElem?_of_mem hp
 exact H.all i _ (by rw [List.getElem?_map,hi];rfl)
theorem opc_two {op:BinOp} {t ty:TypeId} {x y:Operand} {cs ds:Array Value} {r:Bool} {ft:List Nat} {w0 W:World} {k:Nat} {pre:BL} {E:Env} {ρ:Operand→Value} {o:Oper} (ho:o.op=.binOp op t x y ty) (hx:[ρ x,ρ y]=[.agg cs,.agg ds]) (hk:Keep ft w0 W)
  (hg:(eqGuard op t x y (.agg cs) (.agg ds)).run Tryz.prog W=.ok () W) (h:(binOp op t (.agg cs) (.agg ds)).run Tryz.prog W=.ok (.bool r) W):∃ x' q w',(execOp ρ o).run Tryz.prog W=.ok (.value x') w'∧GPost ft w0 k (fun _=>.bool r) pre [] [] E W (.returned x') w' q:=
 opc_bin ho hx hk (by rw [Sem.run_bind,hg];exact h) rfl
end
section
open Go.ChangeShapes Go.WideShapes Go.ChangeAt Go.RowKit Go.Deep
section
variable {H:Type} {enc:TypeId×Value→H} {w:World} {base:Nat} {held:Bool}
def Lite (P:Program) (t:TypeId) (d:DataW H):Prop:=∀ n∈d.weights P t,n≤reachBytes
theorem weightsAll_mem {P:Program} {e:TypeId}:∀ {ds:List (DataW H)} {d:DataW H},d∈ds→∀ n∈d.weights P e,n∈DataW.weightsAll P e ds
 | d0 :: ds,d,hd,n,hn=>by
  simp only [DataW.weightsAll,List.mem_append]
  rcases List.mem_cons.1 hd with rfl | hd
  ·exact .inl hn
  ·exact .inr (weightsAll_mem hd n hn)
theorem Lite.slice {P:Program} {t e:TypeId} {elems sp:List (DataW H)} (h:Lite P t (.slice elems sp)) (ht:P.underlying t=some (.slice e)) :
  (elems.length+sp.length) * P.bytesOf e≤reachBytes∧∀ d∈elems,Lite P e d:=by
 refine ⟨h _ (by simp [DataW.weights,ht]),fun d hd n hn=>h n ?_⟩
 have:=weightsAll_mem (P:=P) hd n hn
 simp only [DataW.weights,ht,List.mem_cons,List.mem_append]
 exact .inr (.inl this)
theorem Lite.struct {P:Program} {t:TypeId} {fs:Array Field} {parts:List (DataW H)} (h:Lite P t (.agg parts)) (ht:P.underlying t=some (.struct fs)) (j:Nat) (f:Field) (d:DataW H) (hf:fs[j]?=some f) (hd:parts[j]?=some d):Lite P f.type d:=by
 intro n hn
 refine h n ?_
 simp only [DataW.weights,ht]
 exact DataW.weights_mem_each (j:=j) (t:=f.type) (d:=d) (by simp [hf]) hd n hn
theorem struct_lite {P:Program} {e:TypeId} {fs:Array Field} {fuel:Nat} {a:Addr} {cs:List Value} {x:DataW H×List MemPlace} (he:P.underlying e=some (.struct fs)) (hone:oneCellFields P fs=true)
  (hcs:w.cells? base a fs.size=some cs) (h:DataW.trod enc P w base (fun _=>true) held fuel e cs=some x) (hz:Lite P e x.1) (j:Nat) (f:Field) (hj:fs[j]?=some f) :
  ∃ (v:Value) (y:DataW H×List MemPlace) (n:Nat),w.cell? (a.add j)=some v∧DataW.trod enc P w base (fun _=>true) held n f.type [v]=some y∧Lite P f.type y.1:=by
 obtain ⟨_,hlen,hat⟩:=World.cells?_some hcs
 obtain ⟨ys,n,_,hx,_,hys,hf⟩:=DataW.trod_struct he h
 obtain ⟨ho,hc⟩:=hone_of hone j f hj
 have hjl:j < fs.size:=(Array.getElem?_eq_some_iff.1 hj).1
 have hd:(cs.drop j).take 1=[cs[j]'(by omega)]:=by
  rw [List.drop_eq_getElem_cons (by omega)];rfl
 have h1:=hf j f hj
 have hyj:ys[j]?=some (ys[j]'(by omega)):=List.getElem?_eq_getElem (by omega)
 rw [ho,hc,hd,hyj] at h1
 rw [hx] at hz
 exact ⟨_,_,n,(hat j hjl).trans (List.getElem?_eq_getElem (by omega)),h1,Lite.struct hz he j f _ hj (by simp [hyj])⟩
theorem slice_lite {P:Program} {t e:TypeId} {fs:Array Field} {fuel:Nat} {v:Value} {x:DataW H×List MemPlace} (ht:P.underlying t=some (.slice e)) (he:P.underlying e=some (.struct fs))
  (hone:oneCellFields P fs=true) (hC:P.cellsOf e=fs.size) (h0:0 < fs.size) (h:DataW.trod enc P w base (fun _=>true) held fuel t [v]=some x) (hz:Lite P t x.1) :
  (∃ (a:Option Addr) (cap:Nat),v=.slice a 0 cap)∨
  ∃ (b o len cap:Nat),v=.slice (some ⟨b,o,none⟩) len cap∧0 < len∧len≤cap∧len * P.bytesOf e≤reachBytes∧
   ∀ i,i < len→∀ (j:Nat) (f:Field),fs[j]?=some f→∃ (c:Value) (y:DataW H×List MemPlace) (n:Nat),w.cell? ⟨b,o+i * fs.size+j,none⟩=some c∧DataW.trod enc P w base (fun _=>true) held n f.type [c]=some y∧Lite P f.type y.1:=by
 rcases open_slice ht h with ⟨hcs,_⟩ | ⟨a,len,cap,m,n,D,Pl,hcs,_,hl,hm,hmm,hx,hi⟩
 ·exact .inl ⟨none,0,by simpa using hcs⟩
 ·simp at hcs
  subst hcs
  simp only [if_true] at hmm
  rw [hx] at hz
  obtain ⟨hzs,hze⟩:=Lite.slice hz ht
  simp only [List.length_map,List.length_range] at hzs
  have hzl:len * P.bytesOf e≤reachBytes:=Nat.le_trans (Nat.mul_le_mul_right _ (by omega)) hzs
  clear hzs
  rw [hmm] at hi
  clear hmm
  by_cases hz:len=0
  ·subst hz;exact .inl ⟨_,_,rfl⟩
  ·have hel:∀ i,i < len→∀ (j:Nat) (f:Field),fs[j]?=some f→∃ (c:Value) (y:DataW H×List MemPlace) (n:Nat),w.cell? ((a.add (i * fs.size)).add j)=some c∧DataW.trod enc P w base (fun _=>true) held n f.type [c]=some y∧Lite P f.type y.1:=by
    intro i hil j f hj
    obtain ⟨cs,hc,htr⟩:=hi i (by omega)
    rw [hC] at hc
    exact struct_lite he hone hc htr (hze _ (List.mem_map.2 ⟨i,List.mem_range.2 hil,rfl⟩)) j f hj
   have hf0:fs[0]?=some (fs[0]'h0):=Array.getElem?_eq_getElem h0
   obtain ⟨c,_,_,hc,_⟩:=hel 0 (by omega) 0 _ hf0
   have ha:(a.add (0 * fs.size)).add 0=a:=by simp [Addr.add]
   rw [ha] at hc
   have hsp:=World.cell?_spot hc
   obtain ⟨b,o,sp⟩:=a
   simp only at hsp
   subst hsp
   refine .inr ⟨b,o,len,cap,rfl,by omega,hl,hzl,fun i hil j f hj=>?_⟩
   have:=hel i hil j f hj
   rw [add_none,add_none] at this
   exact this
theorem reach_small:reachBytes < 140737488355328:=by decide
end
def SeqAt {Q:Type} (N:Nat) (V:Q→Array Value) (Ok:World→Q→Prop) (W:World) (f:Option Addr) (l:Nat) (q:Nat→Q):Prop:=
 ∀ i,i < l→∃ b o,f=some ⟨b,o,none⟩∧RowAt W b (o+i * N) N (V (q i))∧Ok W (q i)
theorem SeqAt.below {Q:Type} {N:Nat} {V:Q→Array Value} {Ok:World→Q→Prop} {W w:World} {f:Option Addr} {l:Nat} {q:Nat→Q} (h:SeqAt N V Ok W f l q) (hb:Below W.heap.size W w)
  (hOk:∀ x,Ok W x→Ok w x):SeqAt N V Ok w f l q:=by
 intro i hi
 obtain ⟨b,o,hf,hr,ho⟩:=h i hi
 exact ⟨b,o,hf,hr.below hb,hOk _ ho⟩
section
variable {H:Type} {enc:TypeId×Value→H} {w:World} {base:Nat} {held:Bool}
theorem part_lite {t:TypeId} {fs:Array Field} {n:Nat} {cs:List Value} {y:DataW H×List MemPlace} (he:Tryz.prog.underlying t=some (.struct fs)) (h:DataW.trod enc Tryz.prog w base (fun _=>true) held n t cs=some y) (hz:Lite Tryz.prog t y.1) (j off c:Nat) (ty:TypeId) (hf:∃ f,fs[j]?=some f∧f.type=ty∧f.offset=off) (hc:Tryz.prog.cellsOf ty=c) :
  ∃ (z:DataW H×List MemPlace) (m:Nat),DataW.trod enc Tryz.prog w base (fun _=>true) held m ty ((cs.drop off).take c)=some z∧Lite Tryz.prog ty z.1:=by
 obtain ⟨f,hj,rfl,rfl⟩:=hf
 subst hc
 obtain ⟨xs,m,_,hx,_,hl,hf⟩:=DataW.trod_struct he h
 have hjl:j < fs.size:=(Array.getElem?_eq_some_iff.1 hj).1
 have hyj:xs[j]?=some (xs[j]'(by omega)):=List.getElem?_eq_getElem (by omega)
 rw [hx] at hz
 exact ⟨_,m,(hf j f hj).trans hyj,Lite.struct hz he j f _ hj (by simp [hyj])⟩
end
end
end Go.Proofs.YtlgpdbgingjpbaaGreat
