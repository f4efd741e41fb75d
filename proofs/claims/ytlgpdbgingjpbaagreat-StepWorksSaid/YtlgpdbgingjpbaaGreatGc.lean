/- The landed package insn: contracts. -/
import Derived.Test.YtlgpdbgingjpbaaGreatGb
import Derived.Test.YtlgpdbgingjpbaaGreatKt
set_option linter.all false
namespace Go.Proofs.YtlgpdbgingjpbaaGreat
open Go.ChangeShapes Go.WideShapes Go.ChangeAt Go.RowKit Go.Deep
theorem kcG_below {w w':World} (hb:Below w.heap.size w w') {b o:Nat} {x:Value} (hc:w.cell? ⟨b,o,none⟩=some x):w'.cell? ⟨b,o,none⟩=some x:=
 (hb.cell (p:=⟨b,o,none⟩) (cell_block hc)).trans hc
theorem kcG_alloc {w:World} {b o:Nat} {x:Value} (h:w.cell? ⟨b,o,none⟩=some x) (ob:Obj):(w.alloc ob).cell? ⟨b,o,none⟩=some x:=kcG_below (bel_alloc (Below.refl _ _) ob) h
theorem kcG_drew {w:World} {b o:Nat} {x:Value} (h:w.cell? ⟨b,o,none⟩=some x):w.drew.cell? ⟨b,o,none⟩=some x:=h
theorem sign_yes (v:BitVec 64) (n:Int) (w:World) (h:okB 0 n=true) :
  Calls Tryz.prog 196 #[.int .u64 (u v),.int .i64 n] w fun e w'=>e=.returned (.tuple #[.int .u64 (u (sgn v n)),.int .i64 0])∧w'=(w.alloc (.cells #[.int .i64 0,.int .i64 n] 284)).alloc (.cells #[.int .i64 0,.int .i64 n] 284):=by
 obtain ⟨h0,h1,h2⟩:=okB_true h
 go_enter Tryz.func196,Tryz.ntmps196
 go_wp2_with (go_at_call 210;refine (mayBe_any _ _ _ (by omega)).mono ?_;rintro e w' ⟨rfl,rfl⟩)
 go_ret2
 refine ⟨?_,rfl⟩
 have e:IntKind.u64.wrap (wrap64 (u (v <<< (64 - n).toNat)) / 2 ^ (64 - n).toNat)=u (sgn v n):=u_sar _ _
 rw [← e]
 rfl
theorem ilow_any (op d n m i:Int) (w:World) :
  Calls Tryz.prog 242 #[.agg #[.int .i64 op,.int .i64 d,.int .i64 n,.int .i64 m,.int .i64 i]] w fun e w'=>e=.returned (.int .u64 (u (numFl 0 12 (i % 4096)).v))∧Below w.heap.size w w':=by
 have HG:=Lib.hid (fun W=>get_yes (BitVec.ofInt 64 i) 0 12 W (by decide))
 rw [low12] at HG
 have hv:IntKind.u64.wrap i=u (BitVec.ofInt 64 i):=u_conv i
 show Calls Tryz.prog 242 #[.agg #[.int .i64 op,.int .i64 d,.int .i64 n,.int .i64 m,.int .i64 i]] w fun e w'=>e=.returned (.int .u64 (u (BitVec.ofInt 64 (i % 4096))))∧Below w.heap.size w w'
 generalize BitVec.ofInt 64 (i % 4096)=g at *
 go_enter Tryz.func242,Tryz.ntmps242
 go_wp2_with fail
 refine (HG.out _).mono ?_
 rintro e w' ⟨rfl,rfl⟩
 go_wp2
 go_ret
 exact ⟨rfl,by go_grown⟩
set_option maxRecDepth 100000 in
set_option maxHeartbeats 1600000 in
theorem ifields_any (op d n m i:Int) (w:World) :
  Calls Tryz.prog 199 #[.agg #[.int .i64 op,.int .i64 d,.int .i64 n,.int .i64 m,.int .i64 i]] w (EndL w (insL ⟨op,d,n,m,i⟩)):=by
 have HK:=Lib.hid (fun W=>ilow_any op d n m i W)
 have hv1:IntKind.u64.wrap m=u (numFl 18 3 m).v:=u_conv m
 have hv2:IntKind.u64.wrap n=u (numFl 21 3 n).v:=u_conv n
 have hv3:IntKind.u64.wrap d=u (numFl 24 3 d).v:=u_conv d
 have hv4:IntKind.u64.wrap op=u (numFl 27 5 op).v:=u_conv op
 have X0:=BoxAt.new w #[.int .i64 op,.int .i64 d,.int .i64 n,.int .i64 m,.int .i64 i] 172
 have x0:=X0.get 0 (.int .i64 op) rfl
 have x1:=X0.get 1 (.int .i64 d) rfl
 have x2:=X0.get 2 (.int .i64 n) rfl
 have x3:=X0.get 3 (.int .i64 m) rfl
 have x4:=X0.get 4 (.int .i64 i) rfl
 clear X0
 go_enter Tryz.func199,Tryz.ntmps199
 go_wp2
 go_region_held3 (fun w'=>w'.cell? ⟨w.heap.size,0,none⟩=some (.int .i64 op)∧w'.cell? ⟨w.heap.size,1,none⟩=some (.int .i64 d)∧w'.cell? ⟨w.heap.size,2,none⟩=some (.int .i64 n)∧w'.cell? ⟨w.heap.size,3,none⟩=some (.int .i64 m)∧w'.cell? ⟨w.heap.size,4,none⟩=some (.int .i64 i))
  (first | go_keep | (refine ⟨?_,?_,?_,?_,?_⟩<;>(repeat (first | with_reducible assumption | with_reducible refine kcG_alloc ?_ _ | with_reducible refine kcG_drew ?_ | (refine kcG_below (by assumption) ?_)))))
  ((go_at_call 242;refine (HK.out _).mono ?_;rintro e w1 ⟨rfl,hb1⟩))
 go_wp2
 refine bodyPost_ret (v:=.slice (some ⟨w1.heap.size,0,none⟩) 5 5) (by simp [results,Tryz.results199,go_sem]) rfl ?_
 have HB1:=bel_trans (Below.drew (bel_alloc (Below.refl w.heap.size w) (.cells #[.int .i64 op,.int .i64 d,.int .i64 n,.int .i64 m,.int .i64 i] 172))) hb1
 exact ⟨w1.heap.size,5,rfl,OwnL.made w1 w.heap.size 5 (insL ⟨op,d,n,m,i⟩) #[.int .i64 0,.int .i64 12,.int .u64 (u (numFl 0 12 (i % 4096)).v),.int .i64 18,.int .i64 3,.int .u64 (u (numFl 18 3 m).v),.int .i64 21,.int .i64 3,.int .u64 (u (numFl 21 3 n).v),.int .i64 24,.int .i64 3,.int .u64 (u (numFl 24 3 d).v),.int .i64 27,.int .i64 5,.int .u64 (u (numFl 27 5 op).v)] HB1.size rfl (by decide) rfl,bel_alloc HB1 _⟩
theorem iword_any (op d n m i:Int) (h:mayI ⟨op,d,n,m,i⟩=true) (w:World) :
  Calls Tryz.prog 154 #[.agg #[.int .i64 op,.int .i64 d,.int .i64 n,.int .i64 m,.int .i64 i]] w fun e w'=>e=.returned (.int .u32 (wordI ⟨op,d,n,m,i⟩))∧Below w.heap.size w w':=by
 have HF:=Lib.hid (fun W=>ifields_any op d n m i W)
 have HS:=Lib.hid (insL_small ⟨op,d,n,m,i⟩)
 have hl:(insL ⟨op,d,n,m,i⟩).length=5:=rfl
 have hw:u (layR (nth (insL ⟨op,d,n,m,i⟩)) (insL ⟨op,d,n,m,i⟩).length).2.1=wordI ⟨op,d,n,m,i⟩:=insL_word _ h
 have hb:=wordI_bd h
 generalize wordI ⟨op,d,n,m,i⟩=z at *
 generalize insL ⟨op,d,n,m,i⟩=L at *
 have HJ:=Lib.hid (fun g c W (h:FldsAt W (some ⟨g,0,none⟩) L.length (nth L))=>join_any (some ⟨g,0,none⟩) L.length c (nth L) W (by omega) h)
 clear hl h
 generalize layR (nth L) L.length=q at HJ hw
 obtain ⟨q0,q1,q2⟩:=q
 simp only at HJ hw
 rw [hw] at HJ
 clear hw
 obtain ⟨hz0,hz1⟩:=hb
 have hz:IntKind.u32.wrap z=z:=by rw [IntKind.wrap_u32'];omega
 go_enter Tryz.func154,Tryz.ntmps154
 go_wp2_with fail
 refine (HF.out _).mono ?_
 rintro e w1 ⟨g,c,rfl,hO,hb⟩
 have HB:=Lib.hid hb
 have HX:=Lib.hid (hO.flds HS.out)
 clear hb hO HF
 go_wp2_with fail
 refine (HJ.out _ _ _ HX.out).mono ?_
 rintro e w2 ⟨rfl,hb2⟩
 go_wp2
 go_ret
 exact ⟨rfl,bel_trans (bel_trans (bel_alloc (Below.refl _ _) _) HB.out) hb2⟩
theorem ibits_any (op d n m i:Int) (v o k:Int) (w:World) (h:okB o k=true) (g:Int) (hg:u (BitVec.ofInt 64 v >>> o.toNat&&& msk k)=g) :
  Calls Tryz.prog 151 #[.agg #[.int .i64 op,.int .i64 d,.int .i64 n,.int .i64 m,.int .i64 i,.int .u32 v],.int .i64 o,.int .i64 k] w fun e w'=>e=.returned (.int .u64 g)∧Below w.heap.size w w':=by
 have HG:=Lib.hid (fun W=>get_yes (BitVec.ofInt 64 v) o k W h)
 rw [hg] at HG
 clear h hg
 have hv:IntKind.u64.wrap v=u (BitVec.ofInt 64 v):=u_conv v
 go_enter Tryz.func151,Tryz.ntmps151
 go_wp2_with fail
 refine (HG.out _).mono ?_
 rintro e w' ⟨rfl,rfl⟩
 go_wp2
 go_ret
 exact ⟨rfl,by go_grown⟩
theorem isigned_any (op d n m i:Int) (v:Int) (w:World) (h0:0≤v) (h1:v≤4294967295) :
  Calls Tryz.prog 152 #[.agg #[.int .i64 op,.int .i64 d,.int .i64 n,.int .i64 m,.int .i64 i,.int .u32 v],.int .i64 0,.int .i64 12] w fun e w'=>e=.returned (.int .i64 (sg12 (v % 4096)))∧Below w.heap.size w w':=by
 have HG:=Lib.hid (fun W=>ibits_any op d n m i v 0 12 W (by decide) _ (by rw [low12]))
 have HS:=Lib.hid (fun W=>sign_yes (BitVec.ofInt 64 (v % 4096)) 12 W (by decide))
 have he:=sgn12 (v % 4096) (by omega) (by omega)
 rw [← he]
 clear he h0 h1
 generalize BitVec.ofInt 64 (v % 4096)=g at *
 generalize sgn g 12=s at *
 go_enter Tryz.func152,Tryz.ntmps152
 go_wp2_with fail
 refine (HG.out _).mono ?_
 rintro e w1 ⟨rfl,hb1⟩
 have HB:=Lib.hid hb1
 clear hb1
 go_wp2_with fail
 refine (HS.out _).mono ?_
 rintro e w2 ⟨rfl,rfl⟩
 go_wp2
 go_ret
 exact ⟨rfl,by repeat' (first | exact bel_trans (bel_alloc (Below.refl _ _) _) HB.out | refine bel_alloc ?_ _)⟩
set_option maxRecDepth 100000 in
theorem iwhole_any (op d n m i:Int) (v:Int) (w:World) :
  Calls Tryz.prog 115 #[.agg #[.int .i64 op,.int .i64 d,.int .i64 n,.int .i64 m,.int .i64 i,.int .u32 v]] w fun e w'=>e=.returned (.bool (mayI ⟨op,d,n,m,i⟩&&decide (wordI ⟨op,d,n,m,i⟩=v)))∧Below w.heap.size w w':=by
 have HM:=Lib.hid (fun W=>imayBe_any ⟨op,d,n,m,i⟩ W)
 unfold insV at HM
 simp only at HM
 have HW:=Lib.hid (fun W h=>iword_any op d n m i h W)
 generalize wordI ⟨op,d,n,m,i⟩=q at *
 rw [← int_beq]
 have X0:=Lib.hid (BoxAt.new w #[.int .i64 op,.int .i64 d,.int .i64 n,.int .i64 m,.int .i64 i,.int .u32 v] 174)
 generalize mayI ⟨op,d,n,m,i⟩=mb at *
 have X1:=X0.out
 have x0:=X1.get 0 (.int .i64 op) rfl
 have x1:=X1.get 1 (.int .i64 d) rfl
 have x2:=X1.get 2 (.int .i64 n) rfl
 have x3:=X1.get 3 (.int .i64 m) rfl
 have x4:=X1.get 4 (.int .i64 i) rfl
 have x5:=X1.get 5 (.int .u32 v) rfl
 clear X0 X1
 cases mb
 ·have htw:w.heap.size≤w.heap.size:=Nat.le_refl _
  have B0:=Lib.hid (Below.refl w.heap.size w)
  clear x0 x1 x2 x3 x4 x5 HW
  go_enter Tryz.func115,Tryz.ntmps115
  go_upto_region 1 with fail
  have X1:=Lib.hid ((BoxAt.newAt (w) #[.int .i64 op,.int .i64 d,.int .i64 n,.int .i64 m,.int .i64 i,.int .u32 v] 174 (w.heap.size) (by first | omega | (simp;done) | (simp;omega))))
  have B1:=Lib.hid ((bel_alloc B0.out (.cells #[.int .i64 op,.int .i64 d,.int .i64 n,.int .i64 m,.int .i64 i,.int .u32 v] 174)))
  obtain ⟨g1,hg1⟩:∃ g1,g1=w.heap.size:=⟨_,rfl⟩
  obtain ⟨W1,hW1⟩:∃ W1,W1=(w).alloc (.cells #[.int .i64 op,.int .i64 d,.int .i64 n,.int .i64 m,.int .i64 i,.int .u32 v] 174):=⟨_,rfl⟩
  have hs1:g1+1≤W1.heap.size:=by rw [hW1,hg1];simp
  rw [← hW1] at X1 B1 ⊢
  have hb1:w.heap.size≤g1:=by omega
  rw [← hg1] at X1 ⊢
  clear hg1
  clear hW1 B0
  refine wp_region_held_drew (S:=(fun w'=>BoxAt w' (g1) #[.int .i64 op,.int .i64 d,.int .i64 n,.int .i64 m,.int .i64 i,.int .u32 v] 174)) (by kernel_rfl) (X1.out.drew) (fun hS=>?_)
  refine tkR 0 3 (v:=.pointer (some ⟨g1,0,none⟩)) rfl hS (fun _ _=>by kernel_rfl) ?_
  refine tkR 1 4 (v:=.agg #[.int .i64 op,.int .i64 d,.int .i64 n,.int .i64 m,.int .i64 i]) rfl hS (fun _ h=>run_ldN 172 (.tmp 3) g1 0 (by kernel_rfl) (by kernel_rfl) Tryz.underlying172 rfl (by kernel_rfl) ((h).sub 0 _ rfl)) ?_
  try simp only [Act.put,List.setIfInBounds_toArray,List.set_cons_zero,List.set_cons_succ]
  refine wpAnyH_ready (rs:=[2]) (by kernel_rfl) (by simp) ?_
  refine AllReadyH.cons (o:=⟨some 5,_,_,_,_,_⟩) rfl (fun K hK=>?_) AllReadyH.nil
  go_simp
  refine (HM.out _).mono ?_
  rintro e w2 ⟨rfl,hb2⟩
  have hz2:=hb2.size
  simp at hz2
  refine hK.out _ _ ?_ (fun hS'=>?_)
  ·exact (hS.below hb2)
  clear hK K hS
  have hS:=hS'
  clear hS'
  try simp only [Act.put,List.setIfInBounds_toArray,List.set_cons_zero,List.set_cons_succ]
  refine tkR 3 6 (v:=.bool false) rfl hS (fun _ _=>by kernel_rfl) ?_
  refine wpAnyH_take (i:=4) (oi:=⟨some 7,_,_,_,_,_⟩) (v:=undef) rfl (by kernel_rfl) (by kernel_rfl) (by kernel_rfl) (fun _ _ _ h=>h) (Or.inr ⟨by rfl,rfl⟩) hS ?_
  simp only [Act.put,List.setIfInBounds_toArray,List.set_cons_zero,List.set_cons_succ]
  refine wpAnyH_take (i:=5) (oi:=⟨some 8,_,_,_,_,_⟩) (v:=undef) rfl (by kernel_rfl) (by kernel_rfl) (by kernel_rfl) (fun _ _ _ h=>h) (Or.inr ⟨by rfl,rfl⟩) hS ?_
  simp only [Act.put,List.setIfInBounds_toArray,List.set_cons_zero,List.set_cons_succ]
  refine wpAnyH_take (i:=6) (oi:=⟨some 9,_,_,_,_,_⟩) (v:=undef) rfl (by kernel_rfl) (by kernel_rfl) (by kernel_rfl) (fun _ _ _ h=>h) (Or.inr ⟨by rfl,rfl⟩) hS ?_
  simp only [Act.put,List.setIfInBounds_toArray,List.set_cons_zero,List.set_cons_succ]
  refine wpAnyH_take (i:=7) (oi:=⟨some 10,_,_,_,_,_⟩) (v:=undef) rfl (by kernel_rfl) (by kernel_rfl) (by kernel_rfl) (fun _ _ _ h=>h) (Or.inr ⟨by rfl,rfl⟩) hS ?_
  simp only [Act.put,List.setIfInBounds_toArray,List.set_cons_zero,List.set_cons_succ]
  refine wpAnyH_take (i:=8) (oi:=⟨some 11,_,_,_,_,_⟩) (v:=undef) rfl (by kernel_rfl) (by kernel_rfl) (by kernel_rfl) (fun _ _ _ h=>h) (Or.inr ⟨by rfl,rfl⟩) hS ?_
  simp only [Act.put,List.setIfInBounds_toArray,List.set_cons_zero,List.set_cons_succ]
  refine wpAnyH_take (i:=9) (oi:=⟨some 12,_,_,_,_,_⟩) (v:=undef) rfl (by kernel_rfl) (by kernel_rfl) (by kernel_rfl) (fun _ _ _ h=>h) (Or.inr ⟨by rfl,rfl⟩) hS ?_
  simp only [Act.put,List.setIfInBounds_toArray,List.set_cons_zero,List.set_cons_succ]
  try simp only [Act.put,List.setIfInBounds_toArray,List.set_cons_zero,List.set_cons_succ]
  refine wpAnyH_take (i:=10) (oi:=⟨some 13,_,_,_,_,_⟩) (v:=?_) rfl (by kernel_rfl) (by kernel_rfl) (by kernel_rfl) (fun _ _ _ h=>h) (Or.inl ⟨by rfl,?_⟩) hS ?_
  rotate_left
  ·(intro w' hSw;clear hSw;go_simp;try with_reducible rfl)
  simp only [Act.put,List.setIfInBounds_toArray,List.set_cons_zero,List.set_cons_succ]
  refine tkR 11 2 (v:=.bool false) rfl hS (fun _ _=>by kernel_rfl) ?_
  refine wpAnyH_done (by kernel_rfl) ?_ _
  try simp only [Act.put,List.setIfInBounds_toArray,List.set_cons_zero,List.set_cons_succ]
  go_wp2
  go_ret
  exact ⟨rfl,(bel_trans (Below.drew B1.out) hb2)⟩
 ·go_enter Tryz.func115,Tryz.ntmps115
  go_wp2
  go_region_held3 (fun w'=>w'.cell? ⟨w.heap.size,0,none⟩=some (.int .i64 op)∧w'.cell? ⟨w.heap.size,1,none⟩=some (.int .i64 d)∧w'.cell? ⟨w.heap.size,2,none⟩=some (.int .i64 n)∧w'.cell? ⟨w.heap.size,3,none⟩=some (.int .i64 m)∧w'.cell? ⟨w.heap.size,4,none⟩=some (.int .i64 i)∧w'.cell? ⟨w.heap.size,5,none⟩=some (.int .u32 v))
   (first | go_keep | (refine ⟨?_,?_,?_,?_,?_,?_⟩<;>(repeat (first | with_reducible assumption | with_reducible refine kcG_alloc ?_ _ | with_reducible refine kcG_drew ?_ | (refine kcG_below (by assumption) ?_)))))
   (first
    | (go_at_call 153;refine (HM.out _).mono ?_;rintro e w1 ⟨rfl,hb1⟩)
    | (go_at_call 154;refine (HW.out _ (by first | trivial | rfl)).mono ?_;rintro e w2 ⟨rfl,hb2⟩))
  go_wp2
  go_ret
  exact ⟨rfl,bel_trans (bel_trans (Below.drew (bel_alloc (Below.refl w.heap.size w) _)) hb1) hb2⟩
def InCheckC:Prop:=∀ (x:Ins) (w:World),
 Calls Tryz.prog 215 #[insV x] w fun e w'=>e=.returned (.int .i64 (if mayI x=true then 0 else 1))∧Below w.heap.size w w'
def InOfC:Prop:=∀ (v:Int),0≤v→v≤4294967295→∀ (w:World),
 Calls Tryz.prog 89 #[.int .u32 v] w fun e w'=>e=.returned (.tuple #[insV (ofI v),.int .i64 (if isI v=true then 0 else 9)])∧Below w.heap.size w w'
theorem inCheckC:InCheckC:=by
 intro x w
 obtain ⟨op,d,n,m,i⟩:=x
 have HM:=Lib.hid (fun W=>imayBe_any ⟨op,d,n,m,i⟩ W)
 unfold insV at *
 simp only at *
 generalize mayI ⟨op,d,n,m,i⟩=mb at *
 cases mb
 ·rw [if_neg (by decide)]
  go_enter Tryz.func215,Tryz.ntmps215
  go_wp2_with (go_at_call 153;refine (HM.out _).mono ?_;rintro e w1 ⟨rfl,hb1⟩)
  go_ret
  exact ⟨rfl,bel_trans (by repeat' (first | exact Below.refl _ _ | refine bel_alloc ?_ _)) hb1⟩
 ·rw [if_pos rfl]
  go_enter Tryz.func215,Tryz.ntmps215
  go_wp2_with (go_at_call 153;refine (HM.out _).mono ?_;rintro e w1 ⟨rfl,hb1⟩)
  go_ret
  exact ⟨rfl,bel_trans (by repeat' (first | exact Below.refl _ _ | refine bel_alloc ?_ _)) hb1⟩
set_option maxHeartbeats 3200000 in
theorem iread_any (v:Int) (w:World) (h0:0≤v) (h1:v≤4294967295) :
  Calls Tryz.prog 114 #[.int .u32 v] w fun e w'=>e=.returned (.agg #[.int .i64 (readI v).op,.int .i64 (readI v).d,.int .i64 (readI v).n,.int .i64 (readI v).m,.int .i64 (readI v).i,.int .u32 v])∧Below w.heap.size w w':=by
 have H0:=Lib.hid (fun op d n m i W=>ibits_any op d n m i v 27 5 W (by decide) _ (got32_27 v h0 h1))
 have H1:=Lib.hid (fun op d n m i W=>ibits_any op d n m i v 24 3 W (by decide) _ (got32_3 v 24 16777216 (by decide) h0 h1))
 have H2:=Lib.hid (fun op d n m i W=>ibits_any op d n m i v 21 3 W (by decide) _ (got32_3 v 21 2097152 (by decide) h0 h1))
 have H3:=Lib.hid (fun op d n m i W=>ibits_any op d n m i v 18 3 W (by decide) _ (got32_3 v 18 262144 (by decide) h0 h1))
 have H4:=Lib.hid (fun op d n m i W=>isigned_any op d n m i v W h0 h1)
 unfold readI
 simp only
 have c0:0≤v / 134217728∧v / 134217728≤31:=by omega
 have c1:0≤v / 16777216 % 8∧v / 16777216 % 8≤7:=by omega
 have c2:0≤v / 2097152 % 8∧v / 2097152 % 8≤7:=by omega
 have c3:0≤v / 262144 % 8∧v / 262144 % 8≤7:=by omega
 generalize v / 134217728=g0 at *
 generalize v / 16777216 % 8=g1 at *
 generalize v / 2097152 % 8=g2 at *
 generalize v / 262144 % 8=g3 at *
 generalize sg12 (v % 4096)=g4 at *
 clear h0 h1
 obtain ⟨p0,q0⟩:=c0
 obtain ⟨p1,q1⟩:=c1
 obtain ⟨p2,q2⟩:=c2
 obtain ⟨p3,q3⟩:=c3
 obtain ⟨W0,hW0⟩:∃ W0,W0=w.alloc (.cells #[.int .i64 0,.int .i64 0,.int .i64 0,.int .i64 0,.int .i64 0,.int .u32 0] 174):=⟨_,rfl⟩
 have HB0:=bel_alloc (Below.refl w.heap.size w) (.cells #[.int .i64 0,.int .i64 0,.int .i64 0,.int .i64 0,.int .i64 0,.int .u32 0] 174)
 have A0:=Lib.hid ((BoxAt.new w #[.int .i64 0,.int .i64 0,.int .i64 0,.int .i64 0,.int .i64 0,.int .u32 0] 174).alloc (.cells #[.int .i64 0,.int .i64 0,.int .i64 0,.int .i64 0,.int .i64 0,.int .u32 v] 174))
 have hsz:W0.heap.size=w.heap.size+1:=by rw [hW0];simp
 have R0:=Lib.hid (BoxAt.new W0 #[.int .i64 0,.int .i64 0,.int .i64 0,.int .i64 0,.int .i64 0,.int .u32 v] 174)
 rw [hsz,hW0] at R0
 rw [← hW0] at HB0
 have B0:=Lib.hid (bel_alloc HB0 (.cells #[.int .i64 0,.int .i64 0,.int .i64 0,.int .i64 0,.int .i64 0,.int .u32 v] 174))
 rw [hW0] at B0
 clear hsz hW0 W0 HB0
 go_enter Tryz.func114,Tryz.ntmps114
 go_wp2_with fail
 refine (H0.out _ _ _ _ _ _).mono ?_
 rintro e w1 ⟨rfl,hb1⟩
 have A1:=Lib.hid (A0.out.below hb1)
 have R1:=R0.out.below hb1
 have B1:=Lib.hid (bel_trans B0.out hb1)
 clear A0 R0 B0 hb1
 have r0:=R1.get 0 (.int .i64 0) rfl
 have r1:=R1.get 1 (.int .i64 0) rfl
 have r2:=R1.get 2 (.int .i64 0) rfl
 have r3:=R1.get 3 (.int .i64 0) rfl
 have r4:=R1.get 4 (.int .i64 0) rfl
 have r5:=R1.get 5 (.int .u32 v) rfl
 have z0:=R1.free 0
 have R2:=Lib.hid (R1.set 0 (.int .i64 g0) #[.int .i64 g0,.int .i64 0,.int .i64 0,.int .i64 0,.int .i64 0,.int .u32 v] rfl)
 have A2:=Lib.hid (A1.out.other ⟨w.heap.size+1,0,none⟩ (.int .i64 g0) (by simp))
 have B2:=Lib.hid (Below.setCell B1.out (p:=⟨w.heap.size+1,0,none⟩) (by simp) (.int .i64 g0))
 clear R1 A1 B1
 go_wp2_with fail
 refine (H1.out _ _ _ _ _ _).mono ?_
 rintro e w2 ⟨rfl,hb2⟩
 clear r0 r1 r2 r3 r4 r5 z0
 have A3:=Lib.hid (A2.out.below hb2)
 have R3:=R2.out.below hb2
 have B3:=Lib.hid (bel_trans B2.out hb2)
 clear A2 R2 B2 hb2
 have r0:=R3.get 0 (.int .i64 g0) rfl
 have r1:=R3.get 1 (.int .i64 0) rfl
 have r2:=R3.get 2 (.int .i64 0) rfl
 have r3:=R3.get 3 (.int .i64 0) rfl
 have r4:=R3.get 4 (.int .i64 0) rfl
 have r5:=R3.get 5 (.int .u32 v) rfl
 have z1:=R3.free 1
 have R4:=Lib.hid (R3.set 1 (.int .i64 g1) #[.int .i64 g0,.int .i64 g1,.int .i64 0,.int .i64 0,.int .i64 0,.int .u32 v] rfl)
 have A4:=Lib.hid (A3.out.other ⟨w.heap.size+1,1,none⟩ (.int .i64 g1) (by simp))
 have B4:=Lib.hid (Below.setCell B3.out (p:=⟨w.heap.size+1,1,none⟩) (by simp) (.int .i64 g1))
 clear R3 A3 B3
 go_wp2_with fail
 refine (H2.out _ _ _ _ _ _).mono ?_
 rintro e w3 ⟨rfl,hb3⟩
 clear r0 r1 r2 r3 r4 r5 z1
 have A5:=Lib.hid (A4.out.below hb3)
 have R5:=R4.out.below hb3
 have B5:=Lib.hid (bel_trans B4.out hb3)
 clear A4 R4 B4 hb3
 have r0:=R5.get 0 (.int .i64 g0) rfl
 have r1:=R5.get 1 (.int .i64 g1) rfl
 have r2:=R5.get 2 (.int .i64 0) rfl
 have r3:=R5.get 3 (.int .i64 0) rfl
 have r4:=R5.get 4 (.int .i64 0) rfl
 have r5:=R5.get 5 (.int .u32 v) rfl
 have z2:=R5.free 2
 have R6:=Lib.hid (R5.set 2 (.int .i64 g2) #[.int .i64 g0,.int .i64 g1,.int .i64 g2,.int .i64 0,.int .i64 0,.int .u32 v] rfl)
 have A6:=Lib.hid (A5.out.other ⟨w.heap.size+1,2,none⟩ (.int .i64 g2) (by simp))
 have B6:=Lib.hid (Below.setCell B5.out (p:=⟨w.heap.size+1,2,none⟩) (by simp) (.int .i64 g2))
 clear R5 A5 B5
 go_wp2_with fail
 refine (H3.out _ _ _ _ _ _).mono ?_
 rintro e w4 ⟨rfl,hb4⟩
 clear r0 r1 r2 r3 r4 r5 z2
 have A7:=Lib.hid (A6.out.below hb4)
 have R7:=R6.out.below hb4
 have B7:=Lib.hid (bel_trans B6.out hb4)
 clear A6 R6 B6 hb4
 have r0:=R7.get 0 (.int .i64 g0) rfl
 have r1:=R7.get 1 (.int .i64 g1) rfl
 have r2:=R7.get 2 (.int .i64 g2) rfl
 have r3:=R7.get 3 (.int .i64 0) rfl
 have r4:=R7.get 4 (.int .i64 0) rfl
 have r5:=R7.get 5 (.int .u32 v) rfl
 have z3:=R7.free 3
 have R8:=Lib.hid (R7.set 3 (.int .i64 g3) #[.int .i64 g0,.int .i64 g1,.int .i64 g2,.int .i64 g3,.int .i64 0,.int .u32 v] rfl)
 have A8:=Lib.hid (A7.out.other ⟨w.heap.size+1,3,none⟩ (.int .i64 g3) (by simp))
 have B8:=Lib.hid (Below.setCell B7.out (p:=⟨w.heap.size+1,3,none⟩) (by simp) (.int .i64 g3))
 clear R7 A7 B7
 go_wp2_with fail
 refine (H4.out _ _ _ _ _ _).mono ?_
 rintro e w5 ⟨rfl,hb5⟩
 clear r0 r1 r2 r3 r4 r5 z3
 have A9:=Lib.hid (A8.out.below hb5)
 have R9:=R8.out.below hb5
 have B9:=Lib.hid (bel_trans B8.out hb5)
 clear A8 R8 B8 hb5
 have r0:=R9.get 0 (.int .i64 g0) rfl
 have r1:=R9.get 1 (.int .i64 g1) rfl
 have r2:=R9.get 2 (.int .i64 g2) rfl
 have r3:=R9.get 3 (.int .i64 g3) rfl
 have r4:=R9.get 4 (.int .i64 0) rfl
 have r5:=R9.get 5 (.int .u32 v) rfl
 have z4:=R9.free 4
 have a0:=A9.out.get 0 (.int .i64 0) rfl
 have y0:=A9.out.free 0
 have a1:=A9.out.get 1 (.int .i64 0) rfl
 have y1:=A9.out.free 1
 have a2:=A9.out.get 2 (.int .i64 0) rfl
 have y2:=A9.out.free 2
 have a3:=A9.out.get 3 (.int .i64 0) rfl
 have y3:=A9.out.free 3
 have a4:=A9.out.get 4 (.int .i64 0) rfl
 have y4:=A9.out.free 4
 have a5:=A9.out.get 5 (.int .u32 0) rfl
 have y5:=A9.out.free 5
 clear A9 R9
 go_wp2
 refine bodyPost_ret (v:=.agg #[.int .i64 g0,.int .i64 g1,.int .i64 g2,.int .i64 g3,.int .i64 g4,.int .u32 v]) (by simp [results,Tryz.results114,go_sem,a0,a1,a2,a3,a4,a5]) rfl ⟨rfl,?_⟩
 repeat' (first | with_reducible exact B9.out | with_reducible refine Below.setCell ?_ (by first | (simp;done) | (simp;omega)) _)
set_option maxHeartbeats 3200000 in
theorem inOfC:InOfC:=by
 intro v h0 h1 w
 have HR:=Lib.hid (fun W=>iread_any v W h0 h1)
 have HW:=Lib.hid (fun W=>iwhole_any (readI v).op (readI v).d (readI v).n (readI v).m (readI v).i v W)
 have hw:(mayI ⟨(readI v).op,(readI v).d,(readI v).n,(readI v).m,(readI v).i⟩&&decide (wordI ⟨(readI v).op,(readI v).d,(readI v).n,(readI v).m,(readI v).i⟩=v))=isI v:=rfl
 rw [hw] at HW
 clear hw
 unfold ofI
 generalize readI v=r at *
 obtain ⟨op,d,n,m,i⟩:=r
 simp only at HR HW
 have A0:=Lib.hid (BoxAt.new w #[.int .i64 0,.int .i64 0,.int .i64 0,.int .i64 0,.int .i64 0] 41)
 have B0:=Lib.hid (bel_alloc (Below.refl w.heap.size w) (.cells #[.int .i64 0,.int .i64 0,.int .i64 0,.int .i64 0,.int .i64 0] 41))
 cases hi:isI v
 ·rw [hi] at HW
  rw [if_neg (by decide),if_neg (by decide)]
  clear hi h0 h1
  unfold insV ins0
  simp only
  go_enter Tryz.func89,Tryz.ntmps89
  go_wp2_with fail
  refine (HR.out _).mono ?_
  rintro e w1 ⟨rfl,hb1⟩
  have A1:=A0.out.below hb1
  have A2:=Lib.hid (A1.alloc (.cells #[.int .i64 op,.int .i64 d,.int .i64 n,.int .i64 m,.int .i64 i,.int .u32 v] 174))
  have B2:=Lib.hid (bel_alloc (bel_trans B0.out hb1) (.cells #[.int .i64 op,.int .i64 d,.int .i64 n,.int .i64 m,.int .i64 i,.int .u32 v] 174))
  clear A0 B0 A1 hb1
  go_wp2_with fail
  refine (HW.out _).mono ?_
  rintro e w2 ⟨rfl,hb2⟩
  have A3:=A2.out.below hb2
  have B3:=Lib.hid (bel_trans B2.out hb2)
  clear A2 B2 hb2
  have a0:=A3.get 0 (.int .i64 0) rfl
  have y0:=A3.free 0
  have a1:=A3.get 1 (.int .i64 0) rfl
  have y1:=A3.free 1
  have a2:=A3.get 2 (.int .i64 0) rfl
  have y2:=A3.free 2
  have a3:=A3.get 3 (.int .i64 0) rfl
  have y3:=A3.free 3
  have a4:=A3.get 4 (.int .i64 0) rfl
  have y4:=A3.free 4
  clear A3
  go_wp2
  refine bodyPost_ret (v:=.tuple #[.agg #[.int .i64 0,.int .i64 0,.int .i64 0,.int .i64 0,.int .i64 0],.int .i64 9]) (by simp [results,Tryz.results89,go_sem,a0,a1,a2,a3,a4]) rfl ⟨rfl,?_⟩
  repeat' (first | with_reducible exact B3.out | with_reducible refine Below.setCell ?_ (by first | (simp;done) | (simp;omega)) _)
 ·rw [hi] at HW
  rw [if_pos rfl,if_pos rfl]
  clear hi h0 h1
  unfold insV
  simp only
  go_enter Tryz.func89,Tryz.ntmps89
  go_wp2_with fail
  refine (HR.out _).mono ?_
  rintro e w1 ⟨rfl,hb1⟩
  have A1:=A0.out.below hb1
  have A2:=Lib.hid (A1.alloc (.cells #[.int .i64 op,.int .i64 d,.int .i64 n,.int .i64 m,.int .i64 i,.int .u32 v] 174))
  have F2:=Lib.hid (BoxAt.new w1 #[.int .i64 op,.int .i64 d,.int .i64 n,.int .i64 m,.int .i64 i,.int .u32 v] 174)
  have B2:=Lib.hid (bel_alloc (bel_trans B0.out hb1) (.cells #[.int .i64 op,.int .i64 d,.int .i64 n,.int .i64 m,.int .i64 i,.int .u32 v] 174))
  clear A0 B0 A1 hb1
  go_wp2_with fail
  refine (HW.out _).mono ?_
  rintro e w2 ⟨rfl,hb2⟩
  have A3:=A2.out.below hb2
  have F3:=F2.out.below hb2
  have B3:=Lib.hid (bel_trans B2.out hb2)
  clear A2 B2 hb2 F2
  have a0:=A3.get 0 (.int .i64 0) rfl
  have y0:=A3.free 0
  have a1:=A3.get 1 (.int .i64 0) rfl
  have y1:=A3.free 1
  have a2:=A3.get 2 (.int .i64 0) rfl
  have y2:=A3.free 2
  have a3:=A3.get 3 (.int .i64 0) rfl
  have y3:=A3.free 3
  have a4:=A3.get 4 (.int .i64 0) rfl
  have y4:=A3.free 4
  have f0:=F3.get 0 (.int .i64 op) rfl
  have f1:=F3.get 1 (.int .i64 d) rfl
  have f2:=F3.get 2 (.int .i64 n) rfl
  have f3:=F3.get 3 (.int .i64 m) rfl
  have f4:=F3.get 4 (.int .i64 i) rfl
  clear A3 F3
  go_wp2
  refine bodyPost_ret (v:=.tuple #[.agg #[.int .i64 op,.int .i64 d,.int .i64 n,.int .i64 m,.int .i64 i],.int .i64 0]) (by simp [results,Tryz.results89,go_sem,a0,a1,a2,a3,a4]) rfl ⟨rfl,?_⟩
  repeat' (first | with_reducible exact B3.out | with_reducible refine Below.setCell ?_ (by first | (simp;done) | (simp;omega)) _)
end Go.Proofs.YtlgpdbgingjpbaaGreat
