/- Covers and Index: contracts. The engine: a function with a loop behind which more follows that hangs on where it stood. The engine: rows of structs of the call's own,as facts: what they say;append of one struct. The reference's Of: contract. Package desc's own calls,and the reference's Of: contracts. The engine: a rest;small lemmas of walks. The reference's Table and Walk: contracts. Stage 14: the reference's Who,Held: contracts. Two stages plainly;the reference's Mid: contract. -/
import Derived.Test.YtlgpdbgingjpbaaGreatDg
import Derived.Test.YtlgpdbgingjpbaaGreatEw
import Derived.Test.YtlgpdbgingjpbaaGreatEj
import Derived.Test.YtlgpdbgingjpbaaGreatSq
import Derived.Test.YtlgpdbgingjpbaaGreatDh
import Derived.Test.YtlgpdbgingjpbaaGreatVp
import Derived.Test.YtlgpdbgingjpbaaGreatMemB
import Derived.Test.YtlgpdbgingjpbaaGreatGb
import Derived.Test.YtlgpdbgingjpbaaGreatVb
import Derived.Test.YtlgpdbgingjpbaaGreatBl
set_option linter.all false
namespace Go.Proofs.YtlgpdbgingjpbaaGreat
section
open Go.ChangeShapes Go.WideShapes Go.ChangeAt Go.RowKit Go.Deep
theorem dcovers_yes (lv:Int) (w:World) (h:numB lv 3=true) :
  Calls Tryz.prog 351 #[.int .i64 lv] w fun e w'=>e=.returned (.tuple #[.int .i64 (cov lv),.int .i64 0])∧w=w':=by
 have hl:=numB_iff.1 h
 have HL:=Lib.hid (fun W=>isLevel_any lv W)
 have HC:=Lib.hid (fun W=>covers_any lv W hl.1 hl.2)
 rw [h] at HL
 clear h hl
 go_enter Tryz.func351,Tryz.ntmps351
 go_wp2_with (first | (go_at_call 321;refine (HL.out _).mono ?_;rintro e w' ⟨rfl,rfl⟩) | (go_at_call 345;refine (HC.out _).mono ?_;rintro e w' ⟨rfl,rfl⟩))
 go_ret2
 exact ⟨rfl,rfl⟩
def idx (lv p:Int):Int:=p / cov lv % 8
theorem idx_get (lv:Int) (x:BitVec 64) (h0:0≤lv) (h1:lv≤3):getN x (3 * (3 - lv)) 3=idx lv (u x):=by
 have hm:∀ k:Nat,((x >>> k&&& msk 3).toNat:Int)=(x.toNat:Int) / ((2 ^ k:Nat):Int) % 8:=by
  intro k
  rw [BitVec.toNat_and,BitVec.toNat_ushiftRight,show (msk 3).toNat=2 ^ 3 - 1 from by decide,Nat.and_two_pow_sub_one_eq_mod,Nat.shiftRight_eq_div_pow]
  norm_cast
 have hc:lv=0∨lv=1∨lv=2∨lv=3:=by omega
 unfold getN idx u
 rcases hc with rfl | rfl | rfl | rfl
 ·exact hm 9
 ·exact hm 6
 ·exact hm 3
 ·exact hm 0
theorem dindex_no (lv p:Int) (w:World) (h:(numB lv 3&&numB p 4095)=false) :
  Calls Tryz.prog 313 #[.int .i64 lv,.int .i64 p] w fun e w'=>e=.returned (.tuple #[.int .i64 0,.int .i64 1])∧w=w':=by
 have HL:=Lib.hid (fun W=>isLevel_any lv W)
 have HP:=Lib.hid (fun W=>isPage_any p W)
 cases h1:numB lv 3
 ·rw [h1] at HL
  clear h1 h
  go_enter Tryz.func313,Tryz.ntmps313
  go_wp2_with (go_at_call 321;refine (HL.out _).mono ?_;rintro e w' ⟨rfl,rfl⟩)
  go_ret2
  exact ⟨rfl,rfl⟩
 ·rw [h1,Bool.true_and] at h
  rw [h1] at HL
  rw [h] at HP
  clear h1 h
  go_enter Tryz.func313,Tryz.ntmps313
  go_wp2_with (first | (go_at_call 321;refine (HL.out _).mono ?_;rintro e w' ⟨rfl,rfl⟩) | (go_at_call 322;refine (HP.out _).mono ?_;rintro e w' ⟨rfl,rfl⟩))
  go_ret2
  exact ⟨rfl,rfl⟩
theorem dindex_yes (lv p:Int) (w:World) (h1:numB lv 3=true) (h2:numB p 4095=true) :
  Calls Tryz.prog 313 #[.int .i64 lv,.int .i64 p] w fun e w'=>e=.returned (.tuple #[.int .i64 (idx lv p),.int .i64 0])∧Below w.heap.size w w':=by
 have hl:=numB_iff.1 h1
 have hp:=numB_iff.1 h2
 obtain ⟨x,rfl⟩:=u_of p hp.1 (by omega)
 have HL:=Lib.hid (fun W=>isLevel_any lv W)
 have HP:=Lib.hid (fun W=>isPage_any (u x) W)
 have HB:=Lib.hid (fun W=>below_any lv W hl.1 hl.2)
 have HG:=Lib.hid (fun W=>get_yes x (3 * (3 - lv)) 3 W (by unfold okB;exact decide_eq_true (by omega)))
 have he:u (x >>> (3 * (3 - lv)).toNat&&& msk 3)=idx lv (u x):=idx_get lv x hl.1 hl.2
 have hb:0≤idx lv (u x)∧idx lv (u x)≤7:=by unfold idx;omega
 rw [he] at HG
 rw [h1] at HL
 rw [h2] at HP
 clear h1 h2 he
 obtain ⟨hb0,hb1⟩:=hb
 generalize idx lv (u x)=g at *
 generalize 3 * (3 - lv)=q at *
 clear hl hp
 go_enter Tryz.func313,Tryz.ntmps313
 go_wp2_with (first | (go_at_call 321;refine (HL.out _).mono ?_;rintro e w' ⟨rfl,rfl⟩) | (go_at_call 322;refine (HP.out _).mono ?_;rintro e w' ⟨rfl,rfl⟩) | (go_at_call 323;refine (HB.out _).mono ?_;rintro e w' ⟨rfl,rfl⟩) | (go_at_call 165;refine (HG.out _).mono ?_;rintro e w' ⟨rfl,rfl⟩))
 go_ret2
 exact ⟨rfl,by go_grown⟩
section
variable {H:Type} {enc:TypeId×Value→H} {w:World} {base:Nat} {held:Bool}
end
end
section
open Go.ChangeShapes Go.WideShapes Go.ChangeAt Go.RowKit Go.Deep
def seqL:Code→Code
 | .seq x _=>x
 | c=>c
def seqR:Code→Code
 | .seq _ y=>y
 | _=>.skip
def bodyC (fn:Func):Code:=fn.body.getD .skip
theorem calls_parts {P:Program} {f:FuncId} {fn:Func} {c:Code} {args:Array Value} {w:World} {R:Ending→World→Prop} (hf:P.funcs[f]?=some fn) (hb:fn.body=some c) (hn:Nat.ble args.toList.length fn.ntmps=true)
  (h:∀ a,Has fn.ntmps (args0 0 args.toList) a→c.wp P (bodyPost P fn R) a w):Calls P f args w R:=by
 refine calls_of_wp hf hb (h _ ⟨rfl,?_,fun k v hk=>?_⟩)
 ·have hn:=Nat.le_of_ble_eq_true hn
  simp at hn ⊢
  omega
 ·obtain ⟨_,h2⟩:=find_args0 _ _ _ _ hk
  simp only [Nat.sub_zero] at h2
  have hlt:=(List.getElem?_eq_some_iff.1 h2).1
  rw [Array.getElem?_append_left (by simpa using hlt)]
  simpa using h2
theorem wp_mid {P:Program} {A B C:Code} {id:Nat} {X:Type} {Q:Exit→Act→World→Prop} {a:Act} {w:World} (I:X→Act→World→Prop) (μ:X→Nat) (hA:A.wp P (fun e a w=>e=.normal∧∃ x,I x a w) a w)
  (hB:∀ x a w,I x a w→B.wp P (fun e a' w'=>match e with | .normal=>∃ x',I x' a' w'∧μ x' < μ x | .exit i=>i=id∧C.wp P Q a' w' | e=>Q e a' w') a w):(Code.seq A (.seq (.block id (.loop B)) C)).wp P Q a w:=by
 refine wp_seq (wp_mono hA ?_)
 rintro e a w ⟨rfl,x,hI⟩
 show (Code.seq (.block id (.loop B)) C).wp P Q a w
 refine wp_seq (wp_block (wp_loop_ex I μ x hI fun x a w hI=>wp_mono (hB x a w hI) fun e a w h=>?_))
 cases e with
 | normal=>exact h
 | exit i=>
  obtain ⟨rfl,h⟩:=h
  simpa [Exit.then,Exit.inBlock] using h
 | _=>exact h
theorem wpI_ex {P:Program} (hm:P.follows .mixedOrders=true) {n:Nat} (fn:Func) (k:List Itm) {a:Act} {w w0:World} {R:Ending→World→Prop} {J Q:Exit→Act→World→Prop} {ft:List Nat} (T0:Sl) (h0:List Bx) (hs:Hs)
  (hT:Has n T0 a) (hF:Fits ft w0 h0 w) (hh:hs.Ok n P fn ft w0 R J) (hQr:∀ a w,bodyPost P fn R .ret a w→Q .ret a w) (hQj:∀ e a w,J (exitOf e) a w→Q (exitOf e) a w)
  (hg:∀ E:Sup,fstC (exRun n P fn false E 1000 k T0 h0 h0.length hs)=sndC (exRun n P fn false E 1000 k T0 h0 h0.length hs)):wpI P Q k .normal a w:=
 exRun_sound hm (top:=false) hQr (fun h=>by cases h) hQj 1000 k h0.length (fun _=>(0,none)) hs a w (fun E _=>⟨T0,h0,hT,hF,Goods.of (hg E)⟩) hh
def popD (id:Nat) (k:List Itm):List Itm:=(popTo id k).getD []
theorem wp_lp {P:Program} {B:Code} {ks:List Itm} {X:Type} {Q:Exit→Act→World→Prop} {a:Act} {w:World} (I:X→Act→World→Prop) (μ:X→Nat) (x0:X) (h0:I x0 a w)
  (round:∀ x a w,I x a w→B.wp P (fun e a' w'=>match e with | .normal=>∃ x',I x' a' w'∧μ x' < μ x | e=>wpI P Q ks e a' w') a w):wpI P Q (.code (.loop B) :: ks) .normal a w:=
 wp_loop_ex I μ x0 h0 fun x a w hI=>wp_mono (round x a w hI) fun e a w h=>by cases e<;>exact h
end
section
open Go.ChangeShapes Go.WideShapes Go.ChangeAt Go.RowKit Go.Deep
theorem own_base {w W:World} {e s n c:Nat} {f:Option Addr} {xs:List Value} (h:(⟨0,0,0,[],.fact (f.map (·.block)) (OwnP e s f n c xs)⟩:Bx).Holds [] w W):W.ownsRow w.heap.size e s (.slice f n c) n xs:=by
 obtain ⟨_,hb,hP,_⟩:=h
 refine ⟨hP.1,?_⟩
 rcases hP.2 with hn | ⟨g,cap,cur,hv,_,rest⟩
 ·exact .inl hn
 ·refine .inr ⟨g,cap,cur,hv,?_,rest⟩
  injection hv with hf
  exact (hb g (by rw [hf];rfl)).1.resolve_left (by simp)
theorem own_rows {Q:Type} {K:RowK Q} {ft:List Nat} {w W:World} {L:List Q} {c:Nat} {f:Option Addr} (h:(⟨0,0,0,[],.fact (f.map (·.block)) (OwnP K.t K.N f L.length c (rcells K L))⟩:Bx).Holds ft w W):RowsAt K W f L:=
 OwnR.rows (show OwnR K W 0 (.slice f L.length c) L from h.2.2.1) |>.2
theorem row_post {Q:Type} {K:RowK Q} {ft:List Nat} {w0 W w':World} {k:Nat} {pre:BL} {E:Env} {e:Ending} {L:List Q} (hk:Keep ft w0 W) (h:∃ f' c',e=.returned (.slice f' L.length c')∧OwnR K w' W.heap.size (.slice f' L.length c') L∧Below W.heap.size W w') :
  ∃ q,GPost ft w0 k (fun E=>.slice (E.f k) L.length (E.b k)) pre [] [fun E=>OwnP K.t K.N (E.f k) L.length (E.b k) (rcells K L)] E W e w' q:=by
 obtain ⟨f',c',he,h1,hb⟩:=h
 exact GPost.own1 hk hb h1 (by rw [he,set_f,set_c])
theorem pushK_opc {Q:Type} {K:RowK Q} {ft:List Nat} {w0 W:World} {E:Env} {ρ:Operand→Value} {o:Oper} (ht:Tryz.prog.underlying K.ts=some (.slice K.t)) (hi:(Tryz.prog.info? K.t).map (fun i=>(i.zero,i.size,i.bytes))=some (some K.z,K.N,K.B)) (hzs:K.z.cells.size=K.N)
  {s x:Operand} (ho:o.op=.call ⟨.builtin .append,#[s,x],#[K.ts,K.ts]⟩) {i k:Nat} {L:List Q} {q:Q} {d b:Nat} {bx:Nat×(Env→Bx)} (hx:[ρ s,ρ x]=[.slice (E.f i) L.length (E.b i),.slice (some ⟨b,0,none⟩) 1 d]) (hk:Keep ft w0 W) {x0:Env→Bx} (h0:x0=ownBx i K.t K.N L.length (rcells K L))
  (hp:∀ p∈[(i,x0),bx],(p.2 E).Holds ft w0 W) (hbx:bx.2 E=⟨b,0,K.t,(K.V q).toList,.own⟩) (hlen:L.length+1≤1000000) :
  ∃ r q' w',(execOp ρ o).run Tryz.prog W=.ok (.value r) w'∧GPost ft w0 k (fun E=>.slice (E.f k) (L++[q]).length (E.b k)) [(i,x0),bx] [(i,fun _=>noBx)] [fun E=>OwnP K.t K.N (E.f k) (L++[q]).length (E.b k) (rcells K (L++[q]))] E W (.returned r) w' q':=by
 subst h0
 have e1:rcells K (L++[q])=rcells K L++(K.V q).toList:=by rw [rcells_append];simp [rcells]
 rw [e1,List.length_append]
 exact push_opc K.ts K.t ht hi hzs K.pos K.small ho i k L.length 1 d (rcells K L) (K.V q).toList hx hk hp hbx (by have:=rcells_length K [q];simp [rcells] at this ⊢;exact this) (List.all_eq_true.2 fun v hv=>rcells_one K [q] v (by simp [rcells];simpa using hv)) hlen (by decide)
end
section
open Go.ChangeShapes Go.WideShapes Go.ChangeAt Go.RowKit Go.Deep
end
section
open Go.ChangeShapes Go.WideShapes Go.ChangeAt Go.RowKit Go.Deep
theorem check_any (st lv:Int) (k f:Int) (r wr x a n:Bool) (s o:Int) (w:World) (b:Bool) (hb:mayE st lv (Dsc.mk k f r wr x a n s o)=b) :
  Calls Tryz.prog 320 #[.int .i64 st,.int .i64 lv,.agg #[.int .i64 k,.int .i64 f,.bool r,.bool wr,.bool x,.bool a,.bool n,.int .i64 s,.int .i64 o]] w fun e w'=>e=.returned (.int .i64 (if b then 0 else 1))∧Below w.heap.size w w':=by
 have HM:=Lib.hid (fun W=>emayBe_any st lv k f r wr x a n s o W)
 rw [hb] at HM
 clear hb
 cases b
 all_goals
  go_enter Tryz.func320,Tryz.ntmps320
  go_wp2_with (first | (go_at_call 331;refine (entryOf_any _ _ _ _ _ _ _ _ _ _ _ _).mono ?_;rintro e w' ⟨rfl,rfl⟩) | (go_at_call 326;refine (HM.out _).mono ?_;rintro e w' ⟨rfl,hb1⟩))
  go_ret
  exact ⟨rfl,bel_trans (by repeat' (first | exact Below.refl _ _ | refine bel_alloc ?_ _)) hb1⟩
end
section
open Go.ChangeShapes Go.WideShapes Go.ChangeAt Go.RowKit Go.Deep
def hitC (h:Hit):List Value:=[.int .i64 h.f,.int .i64 h.m,.bool h.t.r,.bool h.t.w,.bool h.t.x,.bool h.t.a,.bool h.t.n,.int .i64 h.t.s,.int .i64 h.l]
def fltC (f:Flt):List Value:=[.int .i64 f.k,.int .i64 f.st,.int .i64 f.lv,.bool f.w,.int .i64 f.p]
theorem mod_cov (pg lv:Int) (p0:0≤pg):0≤pg % cov lv∧pg % cov lv≤512:=by
 have hc:=cov_pos lv
 have h1:=Int.emod_nonneg pg (show cov lv≠0 by omega)
 have h2:=Int.emod_lt_of_pos pg (show 0 < cov lv by omega)
 omega
theorem CellsAt.keep0 {w W:World} {f:Option Addr} {l:Nat} {V:Nat→Value} (h:CellsAt w f l V) (hk:Keep [] w W):CellsAt W f l V:=fun j hj=>by
 obtain ⟨b1,o1,rfl,hc⟩:=h j hj
 exact ⟨b1,o1,rfl,(World.cell?_of_block (w:=w) (a:=⟨b1,o1+j,none⟩) (hk.block b1 (cell_block hc) (by simp))).trans hc⟩
end
section
open Go.ChangeShapes Go.WideShapes Go.ChangeAt Go.RowKit Go.Deep
end
section
open Go.ChangeShapes Go.WideShapes Go.ChangeAt Go.RowKit Go.Deep
def heldB (N:Int):List Ety→Bool
 | []=>true
 | x :: L=>decide (x.fr < N)&&heldB N L
theorem heldB_iff {N:Int}:∀ {L:List Ety},heldB N L=true↔∀ e∈L,e.fr < N
 | []=>by simp [heldB]
 | x :: L=>by simp [heldB,heldB_iff (L:=L)]
end
section
open Go.ChangeShapes Go.WideShapes Go.ChangeAt Go.RowKit Go.Deep
def midD (l:Nat) (X:Nat→BitVec 64) (on:Bool) (tf mid acc:Int):Hit×Flt×List Int:=
 if on=false then (if (l:Int) / 8≤mid then (hit0,⟨1,2,0,false,mid⟩,[]) else (⟨mid,mid,both1,0⟩,flt0,[]))
 else if (walkD l X 2 tf mid).2.1.k=0 then
  (if (flagA (walkD l X 2 tf mid).1.t acc 2 (walkD l X 2 tf mid).1.l mid).k=0
   then (⟨(walkD l X 2 tf mid).1.f,mid,(walkD l X 2 tf mid).1.t,(walkD l X 2 tf mid).1.l⟩,flt0,(walkD l X 2 tf mid).2.2)
   else (hit0,flagA (walkD l X 2 tf mid).1.t acc 2 (walkD l X 2 tf mid).1.l mid,(walkD l X 2 tf mid).2.2))
 else (hit0,(walkD l X 2 tf mid).2.1,(walkD l X 2 tf mid).2.2)
theorem walk_cases (l:Nat) (X:Nat→BitVec 64) (st fr pg:Int) (h0:0≤fr) (hp:0≤pg):(walkD l X st fr pg).2.2.length≤4∧(∀ x∈(walkD l X st fr pg).2.2,0≤x∧x < (l:Int) / 8)∧
  (((walkD l X st fr pg).2.1=flt0∧(walkD l X st fr pg).1.l=((walkD l X st fr pg).2.2.length:Int) - 1∧0≤(walkD l X st fr pg).1.f∧(walkD l X st fr pg).1.f < (l:Int) / 8)∨
   ((walkD l X st fr pg).2.1.k≠0∧(walkD l X st fr pg).1=hit0∧(walkD l X st fr pg).2.1.st=st∧(walkD l X st fr pg).2.1.p=pg∧((walkD l X st fr pg).2.1.lv=((walkD l X st fr pg).2.2.length:Int)∨(walkD l X st fr pg).2.1.lv=((walkD l X st fr pg).2.2.length:Int) - 1))):=
 walkS_read _ _ st pg (fun lv f=>tbl_kind X st lv f pg) (fun lv f=>(tbl_frame X st lv f pg).1) hp 4 0 fr [] (by decide) (by decide) h0 rfl (by simp)
end
end Go.Proofs.YtlgpdbgingjpbaaGreat
