/- Slices of numbers: owned,appended to,compared,written over. The landed package insn: which instruction may be. -/
import Derived.Test.YtlgpdbgingjpbaaGreatMemB
import Derived.Test.YtlgpdbgingjpbaaGreatGa
set_option linter.all false
namespace Go.Proofs.YtlgpdbgingjpbaaGreat
section
open Go.ChangeShapes Go.WideShapes Go.ChangeAt Go.RowKit Go.Deep
theorem BoxAt.newAt (w:World) (cs:Array Value) (t:TypeId) (b:Nat) (hb:w.heap.size=b):BoxAt (w.alloc (.cells cs t)) b cs t:=by
 subst hb
 exact BoxAt.new w cs t
theorem BoxAt.under {B:Nat} {w w':World} {b:Nat} {cs:Array Value} {t:TypeId} (h:BoxAt w b cs t) (hb:Below B w w') (hB:b < B):BoxAt w' b cs t:=⟨(hb.block b hB).trans h.h⟩
def icells (L:List Int):List Value:=L.map fun a=>.int .i64 a
theorem icells_length (L:List Int):(icells L).length=L.length:=by simp [icells]
theorem icells_append (L M:List Int):icells (L++M)=icells L++icells M:=by simp [icells]
theorem icells_one (L:List Int):∀ v∈icells L,v.oneCell'=true:=by
 intro v hv
 simp only [icells,List.mem_map] at hv
 obtain ⟨t,_,rfl⟩:=hv
 rfl
theorem icells_get (L:List Int) (j:Nat) (h:j < L.length):(icells L)[j]?=some (.int .i64 (L.getD j 0)):=by
 simp [icells,h]
def IntsAt (w:World) (f:Option Addr) (L:List Int):Prop:=NumsAt w f L.length (fun j=>L.getD j 0)
def OwnI (w:World) (base:Nat) (v:Value) (L:List Int):Prop:=w.ownsRow base 3 1 v L.length (icells L)
theorem OwnI.nil (w:World) (base:Nat):OwnI w base (.slice none 0 0) []:=World.ownsRow_nil w base 3 1
theorem OwnI.below {w w':World} {base:Nat} {v:Value} {L:List Int} (h:OwnI w base v L) (hb:Below w.heap.size w w'):OwnI w' base v L:=by
 refine ⟨h.1,?_⟩
 rcases h.2 with hn | ⟨g,cap,cur,rfl,hbg,hgg,rest⟩
 ·exact .inl hn
 ·exact .inr ⟨g,cap,cur,rfl,hbg,(hb.block g (Array.getElem?_eq_some_iff.1 hgg).1).trans hgg,rest⟩
theorem OwnI.mono {w:World} {base base':Nat} {v:Value} {L:List Int} (h:OwnI w base v L) (hb:base'≤base):OwnI w base' v L:=by
 refine ⟨h.1,?_⟩
 rcases h.2 with hn | ⟨g,cap,cur,rfl,hbg,rest⟩
 ·exact .inl hn
 ·exact .inr ⟨g,cap,cur,rfl,by omega,rest⟩
theorem OwnI.form {w:World} {base:Nat} {v:Value} {L:List Int} (h:OwnI w base v L):∃ f c,v=.slice f L.length c∧IntsAt w f L:=by
 rcases h.2 with ⟨rfl,hz⟩ | ⟨g,cap,cur,rfl,hbg,hgg,_⟩
 ·have hl:L.length=0:=hz
  refine ⟨none,0,by rw [hl],?_⟩
  unfold IntsAt
  rw [hl]
  exact CellsAt.empty _ _ _
 ·refine ⟨_,cap,rfl,fun j hj=>⟨g,0,rfl,?_⟩⟩
  have:=World.ownsRow.cellAt h j (by omega)
  rw [icells_get L j hj] at this
  rw [Nat.zero_add]
  exact this
theorem OwnI.ints {w:World} {base:Nat} {f:Option Addr} {n c:Nat} {L:List Int} (h:OwnI w base (.slice f n c) L):n=L.length∧IntsAt w f L:=by
 obtain ⟨f',c',hv,hw⟩:=h.form
 simp at hv
 obtain ⟨rfl,rfl,rfl⟩:=hv
 exact ⟨rfl,hw⟩
theorem OwnI.other {w:World} {base:Nat} {v:Value} {L:List Int} (h:OwnI w base v L) (p:Addr) (y:Value) (hb:p.block < base):OwnI (w.setCell p y) base v L:=by
 refine ⟨h.1,?_⟩
 rcases h.2 with hn | ⟨g,cap,cur,rfl,hbg,hgg,rest⟩
 ·exact .inl hn
 ·exact .inr ⟨g,cap,cur,rfl,hbg,(Below.heap_setCell w p y g (by omega)).trans hgg,rest⟩
theorem OwnI.drew {w:World} {base:Nat} {v:Value} {L:List Int} (h:OwnI w base v L):OwnI w.drew base v L:=h.below (Below.drew (Below.refl _ _))
theorem OwnI.drewN {w:World} {base:Nat} {v:Value} {L:List Int} (h:OwnI w base v L) (n:Nat):OwnI (w.drewN n) base v L:=h.below (below_drewN (Below.refl _ _) n)
theorem OwnI.alloc {w:World} {base:Nat} {v:Value} {L:List Int} (h:OwnI w base v L) (o:Obj):OwnI (w.alloc o) base v L:=h.below (bel_alloc (Below.refl _ _) o)
theorem OwnI.blk {w:World} {base:Nat} {v:Value} {L:List Int} (h:OwnI w base v L):∀ k,v.ownBlock=some k→base≤k:=fun k hk=>(World.ownsRow.lt h k hk).1
theorem OwnI.lt {w:World} {base g n c:Nat} {L:List Int} (h:OwnI w base (.slice (some ⟨g,0,none⟩) n c) L):base≤g∧g < w.heap.size:=World.ownsRow.lt h g rfl
theorem OwnI.made (w:World) (base:Nat) (L:List Int) (cs:Array Value) (n:Nat) (hb:base≤w.heap.size) (hn:n=L.length) (hl:L.length≤1000000) (hc:cs.toList=icells L):OwnI (w.alloc (.cells cs 3)) base (.slice (some ⟨w.heap.size,0,none⟩) n n) L:=by
 subst hn
 have hsz:cs.size=L.length:=by rw [← Array.length_toList,hc,icells_length]
 refine ⟨by rw [icells_length];omega,.inr ⟨w.heap.size,L.length,cs,rfl,hb,?_,by omega,by unfold maxLen;omega,by omega,?_⟩⟩
 ·exact heap_alloc_new w _
 ·rw [hc,List.take_of_length_le (by rw [icells_length];omega)]
theorem IntsAt.below {w w':World} {f:Option Addr} {L:List Int} (h:IntsAt w f L) (hb:Below w.heap.size w w'):IntsAt w' f L:=CellsAt.below h hb
theorem IntsAt.get {w:World} {f:Option Addr} {L:List Int} (h:IntsAt w f L) (j:Nat) (hj:j < L.length):∃ b o,f=some ⟨b,o,none⟩∧w.cell? ⟨b,o+j,none⟩=some (.int .i64 (L.getD j 0)):=h j hj
theorem icells_set (L:List Int) (j:Nat) (y:Int):(icells L).set j (.int .i64 y)=icells (L.set j y):=by
 simp [icells,List.map_set]
theorem OwnI.stored {w:World} {base g n c:Nat} {L:List Int} (h:OwnI w base (.slice (some ⟨g,0,none⟩) n c) L) (j:Nat) (y:Int):OwnI (w.setCell ⟨g,j,none⟩ (.int .i64 y)) base (.slice (some ⟨g,0,none⟩) n c) (L.set j y):=by
 obtain rfl:=h.ints.1
 have:=(World.ownsRow.stored h j (.int .i64 y)).1
 unfold OwnI
 rw [← icells_set,List.length_set]
 exact this
theorem OwnI.pos {w:World} {base:Nat} {f:Option Addr} {n c:Nat} {L:List Int} (h:OwnI w base (.slice f n c) L) (h0:0 < L.length):∃ g,f=some ⟨g,0,none⟩∧base≤g∧∀ j,j < L.length→w.cell? ⟨g,j,none⟩=some (.int .i64 (L.getD j 0))∧w.frozen? ⟨g,j,none⟩=false:=by
 have h':=h
 rcases h.2 with ⟨hv,hz⟩ | ⟨g,cap,cur,hv,hbg,hgg,hnc,_⟩
 ·omega
 ·simp at hv
  obtain ⟨rfl,rfl,rfl⟩:=hv
  refine ⟨g,rfl,hbg,fun j hj=>⟨?_,World.ownsRow.frozenAt h' j⟩⟩
  have:=World.ownsRow.cellAt h' j (by omega)
  rwa [icells_get L j hj] at this
end
section
open Go.ChangeShapes Go.WideShapes Go.ChangeAt Go.RowKit Go.Deep
theorem int_beq (a b:Int):(a==b)=decide (a=b):=by
 rw [Bool.eq_iff_iff];simp
def allB (a b:Int) (L:List Int):Bool:=L.all (inB a b)
theorem allB_one (a b n:Int):allB a b [n]=inB a b n:=by simp [allB]
theorem allB_three (a b x y z:Int):allB a b [x,y,z]=(inB a b x&&(inB a b y&&inB a b z)):=by simp [allB]
theorem allB_no {a b:Int} {L:List Int} (k:Nat) (hk:k < L.length) (h:¬ (a≤L.getD k 0∧L.getD k 0≤b)):allB a b L=false:=by
 unfold allB
 rw [List.all_eq_false]
 refine ⟨L.getD k 0,?_,?_⟩
 ·rw [List.getD_eq_getElem?_getD,List.getElem?_eq_getElem hk]
  exact List.getElem_mem hk
 ·rw [inB_iff];exact h
theorem allB_yes {a b:Int} {L:List Int} (h:∀ j,j < L.length→a≤L.getD j 0∧L.getD j 0≤b):allB a b L=true:=by
 unfold allB
 rw [List.all_eq_true]
 intro x hx
 obtain ⟨k,hk,rfl⟩:=List.mem_iff_getElem.1 hx
 have:=h k hk
 rw [List.getD_eq_getElem?_getD,List.getElem?_eq_getElem hk] at this
 rw [inB_iff];exact this
set_option maxRecDepth 100000 in
theorem areIn_any (a b:Int) (f:Option Addr) (n c:Nat) (L:List Int) (w:World) (hl:L.length≤1000000) (hn:n=L.length) (h:IntsAt w f L) :
  Calls Tryz.prog 197 #[.int .i64 a,.int .i64 b,.slice f n c] w fun e w'=>e=.returned (.bool (allB a b L))∧w=w':=by
 subst hn
 have H1:=Lib.hid h
 clear h
 obtain ⟨l,hL⟩:∃ l,l=L.length:=⟨_,rfl⟩
 have HL:=Lib.hid hL
 rw [← hL] at hl ⊢
 clear hL
 go_enter Tryz.func197,Tryz.ntmps197
 go_wp2
 go_loopw [11] (fun i wr=>∃ (k:Nat),k≤l∧i=.int .i64 k∧wr=w∧Hid (∀ j,j < k→a≤L.getD j 0∧L.getD j 0≤b)) (fun i _=>l - (intOf i).toNat)
 case atStart=>exact ⟨0,Nat.zero_le _,rfl,rfl,fun j hj=>absurd hj (by omega)⟩
 case round=>
  obtain ⟨k,hk,rfl,rfl,HJ⟩:=hrel
  by_cases hlt:k < l
  ·obtain ⟨b',o,rfl,hc⟩:=H1.out.get k (by rw [← HL.out];exact hlt)
   have i1:(0:Int)≤(k:Int):=by omega
   have i2:(k:Int) < (l:Int):=by omega
   obtain ⟨z,hz⟩:∃ z,L.getD k 0=z:=⟨_,rfl⟩
   rw [hz] at hc
   have HZ:=Lib.hid hz
   clear hz
   by_cases h1:z < a
   ·go_wp2
    go_ret
    refine ⟨ret_bool ?_,rfl⟩
    exact (allB_no k (by rw [← HL.out];exact hlt) (by rw [HZ.out];omega)).symm
   ·by_cases h2:z≤b
    ·go_wp2
     go_roundw
     case rel=>
      refine ⟨k+1,by omega,by go_num,by first | trivial | rfl,fun j hj=>?_⟩
      by_cases hjk:j=k
      ·rw [hjk,HZ.out];omega
      ·exact HJ.out j (by omega)
     case measure=>simp [intOf];omega
    ·go_wp2
     go_ret
     refine ⟨ret_bool ?_,rfl⟩
     exact (allB_no k (by rw [← HL.out];exact hlt) (by rw [HZ.out];omega)).symm
  ·go_wp2
   go_ret
   refine ⟨ret_bool ?_,rfl⟩
   exact (allB_yes (fun j hj=>HJ.out j (by rw [← HL.out] at hj;omega))).symm
theorem areIn_new (a b:Int) (L:List Int) (n:Nat) (cs:Array Value) (hn:L.length=n) (hl:n≤1000) (hc:cs.toList=icells L) (r:Bool) (hr:allB a b L=r) (w:World) (g:Nat) (hg:w.heap.size=g) :
  Calls Tryz.prog 197 #[.int .i64 a,.int .i64 b,.slice (some ⟨g,0,none⟩) n n] (w.alloc (.cells cs 3)) fun e w'=>e=.returned (.bool r)∧w.alloc (.cells cs 3)=w':=by
 subst hr hn hg
 exact areIn_any a b _ L.length L.length L _ (by omega) rfl (OwnI.made w w.heap.size L cs L.length (Nat.le_refl _) rfl (by omega) hc).ints.2
set_option maxRecDepth 100000 in
theorem suits_any (x:Ins) (w:World) :
  Calls Tryz.prog 198 #[insV x] w fun e w'=>e=.returned (.bool (suitB x))∧Below w.heap.size w w':=by
 obtain ⟨op,d,n,m,i⟩:=x
 unfold insV suitB
 simp only
 have HM:=Lib.hid (areIn_new 0 3 [m] 1 #[.int .i64 m] rfl (by decide) rfl _ (allB_one 0 3 m))
 have HI:=Lib.hid (areIn_new 0 5 [i] 1 #[.int .i64 i] rfl (by decide) rfl _ (allB_one 0 5 i))
 have HV:=Lib.hid (areIn_new 3 5 [i] 1 #[.int .i64 i] rfl (by decide) rfl _ (allB_one 3 5 i))
 by_cases h7:op=7
 ·subst h7
  go_enter Tryz.func198,Tryz.ntmps198
  go_wp2_with (go_at_call 197;refine (HM.out _ _ (by simp only [World.size_alloc])).mono ?_;rintro e w1 ⟨rfl,rfl⟩)
  go_ret
  exact ⟨ret_bool (by simp),by go_grown⟩
 ·by_cases h8:op=8
  ·subst h8
   go_enter Tryz.func198,Tryz.ntmps198
   go_wp2_with (go_at_call 197;refine (HM.out _ _ (by simp only [World.size_alloc])).mono ?_;rintro e w1 ⟨rfl,rfl⟩)
   go_ret
   exact ⟨ret_bool (by simp),by go_grown⟩
  ·by_cases h11:op=11
   ·subst h11
    go_enter Tryz.func198,Tryz.ntmps198
    go_wp2_with (go_at_call 197;refine (HI.out _ _ (by simp only [World.size_alloc])).mono ?_;rintro e w1 ⟨rfl,rfl⟩)
    go_ret
    exact ⟨ret_bool (by simp),by go_grown⟩
   ·by_cases h12:op=12
    ·subst h12
     go_enter Tryz.func198,Tryz.ntmps198
     go_wp2_with (go_at_call 197;refine (HI.out _ _ (by simp only [World.size_alloc])).mono ?_;rintro e w1 ⟨rfl,rfl⟩)
     go_ret
     exact ⟨ret_bool (by simp),by go_grown⟩
    ·by_cases h13:op=13
     ·subst h13
      go_enter Tryz.func198,Tryz.ntmps198
      go_wp2_with (go_at_call 197;refine (HV.out _ _ (by simp only [World.size_alloc])).mono ?_;rintro e w1 ⟨rfl,rfl⟩)
      go_ret
      exact ⟨ret_bool (by simp),by go_grown⟩
     ·have e7:(op==7)=false:=by rw [int_beq];simp [h7]
      have e8:(op==8)=false:=by rw [int_beq];simp [h8]
      have e11:(op==11)=false:=by rw [int_beq];simp [h11]
      have e12:(op==12)=false:=by rw [int_beq];simp [h12]
      have e13:(op==13)=false:=by rw [int_beq];simp [h13]
      go_enter Tryz.func198,Tryz.ntmps198
      go_wp2
      go_ret
      exact ⟨ret_bool (by simp [h7,h8,h11,h12,h13]),by go_grown⟩
set_option maxRecDepth 100000 in
theorem imayBe_any (x:Ins) (w:World) :
  Calls Tryz.prog 153 #[insV x] w fun e w'=>e=.returned (.bool (mayI x))∧Below w.heap.size w w':=by
 have H4:=Lib.hid (fun W=>suits_any x W)
 have hm:mayI x=(inB 1 16 x.op&&(inB 0 7 x.d&&(inB 0 7 x.n&&inB 0 7 x.m)&&(inB (-2048) 2047 x.i&&suitB x))):=by
  unfold mayI
  simp only [Bool.and_assoc]
 rw [hm]
 clear hm
 generalize suitB x=a4 at *
 obtain ⟨op,d,n,m,i⟩:=x
 unfold insV at *
 simp only at *
 have H1:=Lib.hid (areIn_new 1 16 [op] 1 #[.int .i64 op] rfl (by decide) rfl _ (allB_one 1 16 op))
 have H2:=Lib.hid (areIn_new 0 7 [d,n,m] 3 #[.int .i64 d,.int .i64 n,.int .i64 m] rfl (by decide) rfl _ (allB_three 0 7 d n m))
 have H3:=Lib.hid (areIn_new (-2048) 2047 [i] 1 #[.int .i64 i] rfl (by decide) rfl _ (allB_one (-2048) 2047 i))
 generalize inB 1 16 op=a1 at *
 generalize (inB 0 7 d&&(inB 0 7 n&&inB 0 7 m))=a2 at *
 generalize inB (-2048) 2047 i=a3 at *
 cases a1
 ·go_enter Tryz.func153,Tryz.ntmps153
  go_wp2_with fail
  refine (H1.out _ _ (by simp only [World.size_alloc])).mono ?_
  rintro e w1 ⟨rfl,rfl⟩
  go_wp2
  go_ret
  exact ⟨rfl,by first | (go_grown;done) | exact bel_trans (by go_grown) hb⟩
 ·skip
  cases a2
  ·go_enter Tryz.func153,Tryz.ntmps153
   go_wp2_with fail
   refine (H1.out _ _ (by simp only [World.size_alloc])).mono ?_
   rintro e w1 ⟨rfl,rfl⟩
   go_wp2_with fail
   refine (H2.out _ _ (by simp only [World.size_alloc])).mono ?_
   rintro e w2 ⟨rfl,rfl⟩
   go_wp2
   go_ret
   exact ⟨rfl,by first | (go_grown;done) | exact bel_trans (by go_grown) hb⟩
  ·skip
   cases a3
   ·go_enter Tryz.func153,Tryz.ntmps153
    go_wp2_with fail
    refine (H1.out _ _ (by simp only [World.size_alloc])).mono ?_
    rintro e w1 ⟨rfl,rfl⟩
    go_wp2_with fail
    refine (H2.out _ _ (by simp only [World.size_alloc])).mono ?_
    rintro e w2 ⟨rfl,rfl⟩
    go_wp2_with fail
    refine (H3.out _ _ (by simp only [World.size_alloc])).mono ?_
    rintro e w3 ⟨rfl,rfl⟩
    go_wp2
    go_ret
    exact ⟨rfl,by first | (go_grown;done) | exact bel_trans (by go_grown) hb⟩
   ·go_enter Tryz.func153,Tryz.ntmps153
    go_wp2_with fail
    refine (H1.out _ _ (by simp only [World.size_alloc])).mono ?_
    rintro e w1 ⟨rfl,rfl⟩
    go_wp2_with fail
    refine (H2.out _ _ (by simp only [World.size_alloc])).mono ?_
    rintro e w2 ⟨rfl,rfl⟩
    go_wp2_with fail
    refine (H3.out _ _ (by simp only [World.size_alloc])).mono ?_
    rintro e w3 ⟨rfl,rfl⟩
    go_wp2_with fail
    refine (H4.out _).mono ?_
    rintro e w4 ⟨rfl,hb⟩
    go_wp2
    go_ret
    exact ⟨rfl,by first | (go_grown;done) | exact bel_trans (by go_grown) hb⟩
end
end Go.Proofs.YtlgpdbgingjpbaaGreat
