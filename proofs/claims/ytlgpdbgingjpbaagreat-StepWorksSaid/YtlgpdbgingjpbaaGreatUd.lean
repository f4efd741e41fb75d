/- Stage 15: what each law wakes;the law of addresses. -/
import Derived.Test.YtlgpdbgingjpbaaGreatUc
import Derived.Test.YtlgpdbgingjpbaaGreatMemH
set_option linter.all false
namespace Go.Proofs.YtlgpdbgingjpbaaGreat
open Go.ChangeShapes Go.WideShapes Go.ChangeAt Go.RowKit Go.Deep
def leafX (j:Nat):BitVec 64:=
 if j=0 then 4099#64 else if j=8 then 8195#64 else if 16≤j∧j < 24 then (BitVec.ofNat 64 (j - 13) <<< 12)||| 3#64 else if 24≤j∧j < 88 then (BitVec.ofNat 64 (j - 24) <<< 12)||| 1219#64 else 0#64
def WdP (X:Nat→BitVec 64) (n:Nat) (f:Option Addr) (c:Nat) (W:World):Prop:=c=n∧WordsAt W f n X
theorem WdP.local (X:Nat→BitVec 64) (n:Nat) (f:Option Addr) (c:Nat):Local (f.map (·.block)) (WdP X n f c):=fun w w' h hb _=>⟨h.1,fun j hj=>by
 obtain ⟨b,o,rfl,hc⟩:=h.2 j hj
 exact ⟨b,o,rfl,(World.cell?_of_block (w:=w) (a:=⟨b,o+j,none⟩) (hb b rfl)).trans hc⟩⟩
theorem words_box {ft:List Nat} {w0 w:World} {b n:Nat} {t:TypeId} {X:Nat→BitVec 64} (h:(⟨b,0,t,wcells X n,.own⟩:Bx).Holds ft w0 w):WordsAt w (some ⟨b,0,none⟩) n X:=fun j hj=>by
 refine ⟨b,0,rfl,?_⟩
 have hh:w.heap[b]?=some (.cells (wcells X n).toArray t):=h.2.2
 unfold World.cell?
 rw [hh]
 simp [wcells,hj]
def LeafE (W:World) (e:Ending) (w':World):Prop:=∃ b,W.heap.size≤b∧b < w'.heap.size∧e=.returned (.agg #[.slice (some ⟨b,0,none⟩) 192 192])∧WordsAt w' (some ⟨b,0,none⟩) 192 leafX∧Below W.heap.size W w'
theorem LeafE.post {ft:List Nat} {w0 W w':World} {k:Nat} {pre:BL} {E:Env} {e:Ending} (hk:Keep ft w0 W) (h:LeafE W e w') :
  ∃ q,GPost ft w0 k (fun E=>.agg #[.slice (E.f k) 192 (E.b k)]) pre [] [fun E=>WdP leafX 192 (E.f k) (E.b k)] E W e w' q:=by
 obtain ⟨b,hb,hlt,he,hX,hw⟩:=h
 refine GPost.made (fun _=>(192,some ⟨b,0,none⟩)) hk hw ?_ fun j p hj=>?_
 ·show e=.returned (.agg #[.slice ((E.set k (192,some ⟨b,0,none⟩)).f k) 192 ((E.set k (192,some ⟨b,0,none⟩)).b k)])
  rw [set_f,set_c]
  exact he
 ·obtain ⟨rfl,rfl⟩:0=j∧_=p:=by
   cases j with
   | zero=>exact ⟨rfl,Option.some.inj hj⟩
   | succ j=>simp at hj
  have e1:WdP leafX 192 ((E.set k (192,some ⟨b,0,none⟩)).f k) ((E.set k (192,some ⟨b,0,none⟩)).b k)=WdP leafX 192 (some ⟨b,0,none⟩) 192:=by rw [set_f,set_c]
  refine ⟨(congrFun e1 w').mpr ⟨rfl,hX⟩,(congrArg (Local (some b)) e1).mpr (WdP.local _ _ (some ⟨b,0,none⟩) _),fun c hc=>?_⟩
  obtain rfl:=Option.some.inj hc
  exact ⟨hlt,hb,fun j' h1 h2=>by simp at h1;omega⟩
theorem makeB_opc {ft:List Nat} {w0 W:World} {k n size bytes:Nat} {pre:BL} {E:Env} {ρ:Operand→Value} {o:Oper} {t e:TypeId} {x y:Operand} {z:Value} {cs:List Value} (ho:o.op=.makeSlice t x y) (hx:[ρ x,ρ y]=[.int .i64 (n:Int),.int .i64 (n:Int)]) (hk:Keep ft w0 W)
  (hu:Tryz.prog.underlying t=some (.slice e)) (hi:(Tryz.prog.info? e).map (fun i=>(i.zero,i.size,i.bytes))=some (some z,size,bytes)) (hcs:(madeCells z.cells (n * size)).toList=cs) (hb:(bytes:Int) * (n:Int)≤281474976710656) (hn:n≤100000) :
  ∃ r q w',(execOp ρ o).run Tryz.prog W=.ok (.value r) w'∧GPost ft w0 k (fun E=>.slice (some ⟨E.b k,0,none⟩) n n) pre [] [fun E=>OwnB e cs (E.f k) (E.b k)] E W (.returned r) w' q:=by
 obtain ⟨i,hi0,hz,rfl,rfl⟩:∃ i,Tryz.prog.info? e=some i∧i.zero=some z∧i.size=size∧i.bytes=bytes:=by
  cases hq:Tryz.prog.info? e with
  | none=>rw [hq] at hi;cases hi
  | some i=>
   rw [hq] at hi
   simp only [Option.map_some,Option.some.injEq,Prod.mk.injEq] at hi
   exact ⟨i,rfl,hi.1,hi.2.1,hi.2.2⟩
 have hr:=run_make (P:=Tryz.prog) W t e i z hu hi0 hz .i64 .i64 (n:Int) (n:Int) (by omega) (Int.le_refl _) hb (by omega)
 simp only [Int.toNat_natCast] at hr
 simp only [List.cons.injEq,and_true] at hx
 obtain ⟨b,hbs⟩:∃ b,W.heap.size=b:=⟨_,rfl⟩
 rw [hbs] at hr
 have hB:BoxEnd e cs W (.returned (.pointer (some ⟨b,0,none⟩))) (W.alloc (.cells (madeCells z.cells (n * i.size)) e)):=
  ⟨b,rfl,by omega,by
   rw [← hcs,← hbs]
   exact (heap_alloc_new W _).trans (by rw [Array.toArray_toList]),bel_alloc (Below.refl _ _) _⟩
 obtain ⟨q,hq⟩:=BoxEnd.post (ft:=ft) (w0:=w0) (k:=k) (pre:=pre) (E:=E) hB hk
 refine ⟨.slice (some ⟨b,0,none⟩) n n,q,_,?_,⟨?_,hq.ps,hq.keep,hq.size,hq.frame,hq.nw⟩⟩
 ·unfold execOp
  simp only [ho,hx.1,hx.2,Sem.run_bind,hr,Result.andThen_ok,Sem.run_pure]
 ·have h1:=congrArg Addr.block (Option.some.inj (Value.pointer.inj (Ending.returned.inj hq.ret)))
  exact congrArg (fun z=>Ending.returned (.slice (some ⟨z,0,none⟩) n n)) h1
theorem lnum15_any (n:Int) (w:World) :
  Calls Tryz.prog 18 #[.int .i64 n] w fun e w'=>e=.returned (.int .i64 n)∧Below w.heap.size w w':=by
 exact calls_ex mixedT [] (.fin [] (fun _=>.int .i64 n) []) Tryz.func18 rfl (Fits.nil w) (fun _ _ h _=>⟨rfl,h.below⟩) rfl (fun _=>by kernel_rfl)
set_option maxRecDepth 100000 in
theorem leafs_any (w:World) :
  Calls Tryz.prog 30 #[.int .i64 24] w (LeafE w):=by
 exact calls_ex mixedT [] (.r 1 [(2,.opc (.makeSlice 22 (.tmp 7) (.tmp 7)) (fun _=>[.int .i64 192,.int .i64 192]) (fun E=>.slice (some ⟨E.b 1,0,none⟩) 192 192) [] [] 1 [fun E=>OwnB 25 (List.replicate 192 (.int .u64 0)) (E.f 1) (E.b 1)]),(3,.own 1 25 (fun _=>(List.replicate 192 (.int .u64 0))) (fun E=>OwnB 25 (List.replicate 192 (.int .u64 0)) (E.f 1) (E.b 1))),a1 5 2 0] (.r 2 [a1 1 2 0,a1 3 2 0,a1 5 2 0,a1 7 1 0,a1 9 1 8,a1 11 1 16] (.un (.r 6 [a1 1 2 0,a1 10 1 16] (.un (.r 10 [a1 1 2 0,a1 15 1 24] (.un (.r 10 [a1 1 2 0,a1 15 1 25] (.un (.r 10 [a1 1 2 0,a1 15 1 26] (.un (.r 10 [a1 1 2 0,a1 15 1 27] (.un (.r 10 [a1 1 2 0,a1 15 1 28] (.un (.r 10 [a1 1 2 0,a1 15 1 29] (.un (.r 10 [a1 1 2 0,a1 15 1 30] (.un (.r 10 [a1 1 2 0,a1 15 1 31] (.un (.un (.r 6 [a1 1 2 0,a1 10 1 17] (.un (.r 10 [a1 1 2 0,a1 15 1 32] (.un (.r 10 [a1 1 2 0,a1 15 1 33] (.un (.r 10 [a1 1 2 0,a1 15 1 34] (.un (.r 10 [a1 1 2 0,a1 15 1 35] (.un (.r 10 [a1 1 2 0,a1 15 1 36] (.un (.r 10 [a1 1 2 0,a1 15 1 37] (.un (.r 10 [a1 1 2 0,a1 15 1 38] (.un (.r 10 [a1 1 2 0,a1 15 1 39] (.un (.un (.r 6 [a1 1 2 0,a1 10 1 18] (.un (.r 10 [a1 1 2 0,a1 15 1 40] (.un (.r 10 [a1 1 2 0,a1 15 1 41] (.un (.r 10 [a1 1 2 0,a1 15 1 42] (.un (.r 10 [a1 1 2 0,a1 15 1 43] (.un (.r 10 [a1 1 2 0,a1 15 1 44] (.un (.r 10 [a1 1 2 0,a1 15 1 45] (.un (.r 10 [a1 1 2 0,a1 15 1 46] (.un (.r 10 [a1 1 2 0,a1 15 1 47] (.un (.un (.r 6 [a1 1 2 0,a1 10 1 19] (.un (.r 10 [a1 1 2 0,a1 15 1 48] (.un (.r 10 [a1 1 2 0,a1 15 1 49] (.un (.r 10 [a1 1 2 0,a1 15 1 50] (.un (.r 10 [a1 1 2 0,a1 15 1 51] (.un (.r 10 [a1 1 2 0,a1 15 1 52] (.un (.r 10 [a1 1 2 0,a1 15 1 53] (.un (.r 10 [a1 1 2 0,a1 15 1 54] (.un (.r 10 [a1 1 2 0,a1 15 1 55] (.un (.un (.r 6 [a1 1 2 0,a1 10 1 20] (.un (.r 10 [a1 1 2 0,a1 15 1 56] (.un (.r 10 [a1 1 2 0,a1 15 1 57] (.un (.r 10 [a1 1 2 0,a1 15 1 58] (.un (.r 10 [a1 1 2 0,a1 15 1 59] (.un (.r 10 [a1 1 2 0,a1 15 1 60] (.un (.r 10 [a1 1 2 0,a1 15 1 61] (.un (.r 10 [a1 1 2 0,a1 15 1 62] (.un (.r 10 [a1 1 2 0,a1 15 1 63] (.un (.un (.r 6 [a1 1 2 0,a1 10 1 21] (.un (.r 10 [a1 1 2 0,a1 15 1 64] (.un (.r 10 [a1 1 2 0,a1 15 1 65] (.un (.r 10 [a1 1 2 0,a1 15 1 66] (.un (.r 10 [a1 1 2 0,a1 15 1 67] (.un (.r 10 [a1 1 2 0,a1 15 1 68] (.un (.r 10 [a1 1 2 0,a1 15 1 69] (.un (.r 10 [a1 1 2 0,a1 15 1 70] (.un (.r 10 [a1 1 2 0,a1 15 1 71] (.un (.un (.r 6 [a1 1 2 0,a1 10 1 22] (.un (.r 10 [a1 1 2 0,a1 15 1 72] (.un (.r 10 [a1 1 2 0,a1 15 1 73] (.un (.r 10 [a1 1 2 0,a1 15 1 74] (.un (.r 10 [a1 1 2 0,a1 15 1 75] (.un (.r 10 [a1 1 2 0,a1 15 1 76] (.un (.r 10 [a1 1 2 0,a1 15 1 77] (.un (.r 10 [a1 1 2 0,a1 15 1 78] (.un (.r 10 [a1 1 2 0,a1 15 1 79] (.un (.un (.r 6 [a1 1 2 0,a1 10 1 23] (.un (.r 10 [a1 1 2 0,a1 15 1 80] (.un (.r 10 [a1 1 2 0,a1 15 1 81] (.un (.r 10 [a1 1 2 0,a1 15 1 82] (.un (.r 10 [a1 1 2 0,a1 15 1 83] (.un (.r 10 [a1 1 2 0,a1 15 1 84] (.un (.r 10 [a1 1 2 0,a1 15 1 85] (.un (.r 10 [a1 1 2 0,a1 15 1 86] (.un (.r 10 [a1 1 2 0,a1 15 1 87] (.un (.un (.r 11 [a1 0 2 0,a1 1 0 0] (.fin [(0,0,1)] (fun E=>.agg #[.slice (some ⟨E.b 1,0,none⟩) 192 192]) [(1,(fun E=>⟨E.b 1,0,25,(wcells leafX 192),.own⟩))]))))))))))))))))))))))))))))))))))))))))))))))))))))))))))))))))))))))))))))))))))))))))))))))))))))))))))))))))))))))))))))))))))))))))))))))))))))))))))))) Tryz.func30 rfl (Fits.nil w) (⟨fun E W ρ o ho hx hk _=>makeB_opc (n:=192) (z:=.int .u64 0) (size:=1) (bytes:=8) ho hx hk Tryz.underlying22 (by kernel_rfl) (by kernel_rfl) (by decide) (by decide),fun _ _ h=>h,fun E W hk hp=>⟨E.b 1,((hp.1 _ (List.mem_singleton.2 rfl)).2.1.resolve_left (fun h=>nomatch h)),(hp.1 _ (List.mem_singleton.2 rfl)).lt rfl,rfl,words_box (hp.1 _ (List.mem_singleton.2 rfl)),hk.below⟩⟩) rfl (fun _=>by kernel_rfl)
def codeX:Nat→BitVec 64:=wrV leafX 1280 4 184553465#64
def CodeE (W:World) (e:Ending) (w':World):Prop:=∃ f c,e=.returned (.agg #[.slice f 192 c])∧Fits [] W [ownFx 25 1 f 192 c (wcells codeX 192)] w'
set_option maxRecDepth 100000 in
theorem code_any (f:Option Addr) (g:Nat) (w:World) (hX:WordsAt w f 192 leafX) (hb:Fits [] w [⟨g,0,41,[.int .i64 1,.int .i64 3,.int .i64 0,.int .i64 0,.int .i64 (-7)],.row⟩] w) :
  Calls Tryz.prog 29 #[.agg #[.slice f 192 192],.int .i64 20,.slice (some ⟨g,0,none⟩) 1 1] w (CodeE w):=by
 exact calls_ex mixedT [⟨g,0,41,[.int .i64 1,.int .i64 3,.int .i64 0,.int .i64 0,.int .i64 (-7)],.row⟩] (.un (.r 4 [(2,.ix 99 (fun _=>.slice (some ⟨g,0,none⟩) 1 1) (fun _=>.int .i64 0) (fun _=>.pointer (some ⟨g,0,none⟩))),aN 3 0 0 5,(4,.call 49 (fun _=>[.agg #[.int .i64 1,.int .i64 3,.int .i64 0,.int .i64 0,.int .i64 (-7)]]) (fun _=>.bool true)),a1 6 1 0,(12,.call 50 (fun _=>[.agg #[.slice f 192 192],.int .i64 1280,.int .i64 4]) (fun _=>.int .i64 0))] (.r 5 [a1 0 1 0,(8,.ix 99 (fun _=>.slice (some ⟨g,0,none⟩) 1 1) (fun _=>.int .i64 0) (fun _=>.pointer (some ⟨g,0,none⟩))),aN 9 0 0 5,(10,.call 52 (fun _=>[.agg #[.int .i64 1,.int .i64 3,.int .i64 0,.int .i64 0,.int .i64 (-7)]]) (fun _=>.int .u32 184553465)),(12,.callg 51 (fun _=>[.agg #[.slice f 192 192],.int .i64 1280,.int .i64 4,.int .u64 184553465]) (fun E=>.agg #[.slice (E.f 3) 192 (E.b 3)]) [] [] 3 [fun E=>OwnP 25 1 (E.f 3) 192 (E.b 3) (wcells codeX 192)]),a1 13 1 0] (.un (.r 6 [a1 0 1 0,a1 1 2 0] (.fin [(2,0,1)] (fun E=>.agg #[.slice (E.f 3) 192 (E.b 3)]) [(3,(fun E=>ownFx 25 1 (E.f 3) 192 (E.b 3) (wcells codeX 192)))])))))) Tryz.func29 rfl hb (⟨fun _ _=>ix_row 99 41 g 0 _ _ 0 5 Tryz.underlying99 (by kernel_rfl) (by decide),fun _ W _=>(rinsn_any ⟨1,3,0,0,-7⟩ W).mono fun _ _ hJ=>⟨hJ.1.trans (by rw [show mayI ⟨1,3,0,0,-7⟩=true from by kernel_rfl]),hJ.2⟩,fun _ W _=>(rmay_any f 192 192 1280 4 W (by decide)).mono fun _ _ hJ=>⟨hJ.1.trans (by rw [show mayM 192 1280 4=0 from by kernel_rfl]),by rw [hJ.2];exact bel_alloc (Below.refl _ _) _⟩,fun _ _=>ix_row 99 41 g 0 _ _ 0 5 Tryz.underlying99 (by kernel_rfl) (by decide),fun _ W _=>(riword_any 1 3 0 0 (-7) (by kernel_rfl) W).mono fun _ _ hJ=>⟨hJ.1.trans (by rw [show wordI ⟨1,3,0,0,-7⟩=184553465 from by kernel_rfl]),hJ.2⟩,fun E W hk hp=>(rwrite_ok f 192 192 leafX 1280 4 184553465#64 W (hX.below hk.below) (by kernel_rfl) (by kernel_rfl)).mono fun e w' h=>by obtain ⟨f',c',he,h1,h2⟩:=h;exact GPost.own1 hk h2 h1 (by rw [he,set_f,set_c]),fun E W hk hp=>⟨E.f 3,E.b 3,rfl,hp.2 rfl⟩⟩) rfl (fun _=>by kernel_rfl)
def kW (f:Option Addr) (c:Nat):CorK:=⟨f,192,c,codeX,0,true,0,0,0,false,false,false,-1,false,0,0,⟨0,0,0,0,0⟩,flt0,0,⟨0,0,0,0,0,0,0,0,1280#64,0,0,0,0,0,0⟩⟩
def r2W:Rg:=⟨0,0,0,18446744073709551609#64,0,0,0,0,1284#64,0,0,0,0,0,0⟩
theorem Fits.drop1 {ft:List Nat} {w0 w:World} {y:Bx} {h:List Bx} (H:Fits ft w0 (y :: h) w):Fits ft w0 h w:=
 ⟨H.keep,fun i x hi=>H.all (i+1) x hi,fun i j x z hi hj hij=>H.ne (i+1) (j+1) x z hi hj (by omega)⟩
theorem row_at_box {w:World} {b:Nat} {t:TypeId} {cs:List Value} {N:Nat} {V:Array Value} (h:w.heap[b]?=some (.cells cs.toArray t)) (hV:V.toList=cs):RowAt w b (0+0 * N) V.size V:=by
 rw [Nat.zero_mul,Nat.add_zero]
 refine ⟨(Array.getElem?_eq_some_iff.1 h).1,fun i hi=>?_⟩
 unfold World.cell?
 simp [h,← hV]
set_option maxRecDepth 100000 in
theorem wakes15_any (w:World) :
  Calls Tryz.prog 25 #[] w fun e w'=>e=.returned (.bool true)∧Below w.heap.size w w':=by
 have hx3:((u r2W.x3)==18446744073709551609)=true:=by decide
 have hpc:((u r2W.pc)==1284)=true:=by decide
 exact calls_ex mixedT [] (.r 1 [(0,.callg 30 (fun _=>[.int .i64 24]) (fun E=>.agg #[.slice (E.f 0) 192 (E.b 0)]) [] [] 0 [fun E=>(WdP leafX 192 (E.f 0) (E.b 0))]),(3,.callg 29 (fun E=>[.agg #[.slice (E.f 0) 192 (E.b 0)],.int .i64 20,.slice (some ⟨E.b 1,0,none⟩) 1 1]) (fun E=>.agg #[.slice (E.f 2) 192 (E.b 2)]) [(0,(fun E=>⟨0,0,0,[],.fact ((E.f 0).map (·.block)) ((WdP leafX 192 (E.f 0) (E.b 0)))⟩)),(1,(fun E=>⟨E.b 1,0,41,[.int .i64 1,.int .i64 3,.int .i64 0,.int .i64 0,.int .i64 (-7)],.own⟩))] [] 2 [fun E=>OwnP 25 1 (E.f 2) 192 (E.b 2) (wcells codeX 192)]),a1 5 3 0] (.r 2 [a1 0 3 0,(2,.opc (.makeSlice 31 (.const (.int .i64 1)) (.const (.int .i64 1))) (fun _=>[.int .i64 1,.int .i64 1]) (fun E=>.slice (some ⟨E.b 4,0,none⟩) 1 1) [] [] 4 [fun E=>OwnB 77 ([.slice none 0 0,.slice none 0 0]) (E.f 4) (E.b 4)]),(5,.callg 16 (fun E=>[.agg #[.slice (E.f 2) 192 (E.b 2)],.agg #[.int .u64 0,.int .u64 0,.int .u64 0,.int .u64 0,.int .u64 0,.int .u64 0,.int .u64 0,.int .u64 0,.int .u64 1280,.int .u64 0,.int .u64 0,.int .u64 0,.int .u64 0,.int .u64 0,.int .u64 0],.slice (some ⟨E.b 4,0,none⟩) 1 1,.int .i64 0,.agg #[.bool true,.int .i64 0,.int .i64 0],.agg #[.int .i64 0,.bool false,.bool false,.bool false,.int .i64 (-1),.bool false]]) (fun E=>.tuple #[.agg #[.slice (E.f 5) 192 (E.b 5)],.agg #[.int .u64 (u r2W.x0),.int .u64 (u r2W.x1),.int .u64 (u r2W.x2),.int .u64 (u r2W.x3),.int .u64 (u r2W.x4),.int .u64 (u r2W.x5),.int .u64 (u r2W.x6),.int .u64 (u r2W.x7),.int .u64 (u r2W.pc),.int .u64 (u r2W.tt),.int .u64 (u r2W.sc),.int .u64 (u r2W.vb),.int .u64 (u r2W.el),.int .u64 (u r2W.es),.int .u64 (u r2W.fa)],.slice (E.f 6) 1 (E.b 6),.agg #[.int .i64 0,.int .i64 0,.int .i64 1,.int .i64 3,.int .i64 0,.int .i64 0,.int .i64 (-7),.int .i64 0,.int .i64 0,.int .i64 0,.bool false,.int .i64 0,.int .i64 0,.slice (E.f 9) (([]:List Int)++([0,1,2,5]++[20])).length (E.b 9),.int .u64 (u r2W.x0),.int .u64 (u r2W.x1),.int .u64 (u r2W.x2),.int .u64 (u r2W.x3),.int .u64 (u r2W.x4),.int .u64 (u r2W.x5),.int .u64 (u r2W.x6),.int .u64 (u r2W.x7),.int .u64 (u r2W.pc),.int .u64 (u r2W.tt),.int .u64 (u r2W.sc),.int .u64 (u r2W.vb),.int .u64 (u r2W.el),.int .u64 (u r2W.es),.int .u64 (u r2W.fa)],.int .i64 0]) [(2,(fun E=>ownFx 25 1 (E.f 2) 192 (E.b 2) (wcells codeX 192))),(4,(fun E=>⟨0,0,0,[],.fact ((E.f 4).map (·.block)) (OwnB 77 [.slice none 0 0,.slice none 0 0] (E.f 4) (E.b 4))⟩))] [] 5 [fun E=>OwnP 25 1 (E.f 5) 192 (E.b 5) (wcells codeX 192),fun E=>OwnP KT.t 2 (E.f 6) 1 (E.b 6) (rcells KT [⟨E.f 7,([]:List Ety).length,E.b 7,E.f 8,([]:List Inv).length,E.b 8⟩]),fun E=>OwnP KE.t 14 (E.f 7) ([]:List Ety).length (E.b 7) (rcells KE ([]:List Ety)),fun E=>OwnP KI.t 4 (E.f 8) ([]:List Inv).length (E.b 8) (rcells KI ([]:List Inv)),fun E=>OwnP 3 1 (E.f 9) (([]:List Int)++([0,1,2,5]++[20])).length (E.b 9) (icells (([]:List Int)++([0,1,2,5]++[20])))]),a1 15 10 0,aN 16 11 0 15,aN 18 12 0 29] (.r 3 [(1,.call 18 (fun _=>[.int .i64 0]) (fun _=>.int .i64 0)),a1 6 11 3,(7,.rw (fun _=>.bool ((u r2W.x3)==18446744073709551609)) (fun _=>.bool true)),a1 11 11 8,(12,.rw (fun _=>.bool ((u r2W.pc)==1284)) (fun _=>.bool true)),a1 21 12 1] (.fin [] (fun _=>.bool true) [])))) Tryz.func25 rfl (Fits.nil w) (⟨fun E W hk _=>(leafs_any W).mono fun e w' h=>h.post hk,fun E W hk hp=>(by have h0:=(hp.1 _ (List.mem_cons_self ..)).2.2.1;rw [h0.1];exact code_any (E.f 0) (E.b 1) W h0.2 (((hp.2 rfl).drop1).ro):Calls Tryz.prog 29 #[.agg #[.slice (E.f 0) 192 (E.b 0)],.int .i64 20,.slice (some ⟨E.b 1,0,none⟩) 1 1] W _).mono fun e w' h=>by obtain ⟨f',c',he,hF⟩:=h;exact GPost.fin (ft:=[]) (supL 2 [(c',f')]) hk hp.1 (fun _ h=>nomatch h) (fun _ _ _ h=>nomatch h) he hF,fun E W ρ o ho hx hk _=>makeB_opc (n:=1) (z:=.agg #[.slice none 0 0,.slice none 0 0]) (size:=2) (bytes:=48) ho hx hk Tryz.underlying31 (by kernel_rfl) (by kernel_rfl) (by decide) (by decide),(fun E W hk hp=>by
  have hU:=(hp.1 _ (List.mem_cons_self ..)).2.2.1
  have hT:=(hp.1 _ (List.mem_cons_of_mem _ (List.mem_singleton.2 rfl))).2.2.1
  have hB:=Fits.boxR hT.2
  have hU1:=(hU.at (by decide)).1
  refine (sstep1_any (kW (E.f 2) (E.b 2)) 0 (E.b 4) 0 1 0 0 none none [] [] W (RowsAt.nil _ _) (RowsAt.nil _ _) (by decide) (by decide) (Nat.le_refl _) (by decide) (fun _=>rfl) (fun _=>rfl) ?_ (by kernel_rfl) _ _ hU1 (own_words (hp.1 _ (List.mem_cons_self ..))) (by kernel_rfl) rfl (by kernel_rfl) (by kernel_rfl) [] 20 flt0 [0,1,2,5] false 0 0 184553465 ⟨1,3,0,0,-7⟩ (by kernel_rfl) (by kernel_rfl) (by kernel_rfl) (by decide) (by decide) (by kernel_rfl) (by kernel_rfl) r2W ?_ (show u 1280#64 < 262144 from by decide) (by kernel_rfl) (by kernel_rfl) (by kernel_rfl) rfl (by decide) (by decide) hB).mono fun e w' h=>?_
  ·intro j q hj
   cases j with
   | zero=>
    obtain rfl:=Option.some.inj hj
    exact ⟨_,_,rfl,row_at_box hT.2 rfl⟩
   | succ j=>simp at hj
  ·intro k' b sA sR w hr hb
   refine (sdo_1300 k' (-7) b sA sR 18446744073709551609#64 r2W w (by kernel_rfl) (by rw [hr];kernel_rfl) (by rw [hr];kernel_rfl) hb)
  ·obtain ⟨fW,cW,fA,cA,fE,cE,fD,cD,fR,cR,he,hF⟩:=h
   exact GPost.fin (ft:=[]) (supL 5 [(cW,fW),(cA,fA),(cE,fE),(cD,fD),(cR,fR)]) hk hp.1 (fun _ h=>nomatch h) (fun _ _ _ h=>nomatch h) he hF),fun _ W _=>lnum15_any _ W,fun _=>congrArg Value.bool hx3,fun _=>congrArg Value.bool hpc,fun _ _ h _=>⟨rfl,h.below⟩⟩) rfl (fun _=>by kernel_rfl)
end Go.Proofs.YtlgpdbgingjpbaaGreat
