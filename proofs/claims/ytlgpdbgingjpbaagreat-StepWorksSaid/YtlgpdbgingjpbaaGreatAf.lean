/- The reference's Insn,Word,Of. What is reckoned,plainly;and bit by bit. Stage 12: what is reckoned bit by bit is what is reckoned at once. Stage 12: the reference's MayDo,Do;what the program's calls are held against;the argument,opened. The landed package alu: contracts. -/
import Derived.Test.YtlgpdbgingjpbaaGreatGb
import Derived.Test.YtlgpdbgingjpbaaGreatDb
import Derived.Test.YtlgpdbgingjpbaaGreatKt
import Derived.Test.YtlgpdbgingjpbaaGreatGa
import Derived.Test.YtlgpdbgingjpbaaGreatSq
import Derived.Test.YtlgpdbgingjpbaaGreatGc
set_option linter.all false
namespace Go.Proofs.YtlgpdbgingjpbaaGreat
section
open Go.ChangeShapes Go.WideShapes Go.ChangeAt Go.RowKit Go.Deep
theorem inB_no {a b n:Int} (h:¬ (a≤n∧n≤b)):inB a b n=false:=by simp only [inB];exact decide_eq_false h
theorem inB_hi {a b n:Int} (h:a≤n):inB a b n=decide (n≤b):=by simp [inB,h]
set_option maxRecDepth 100000 in
set_option maxHeartbeats 3200000 in
theorem rinsn_any (x:Ins) (w:World) :
  Calls Tryz.prog 49 #[insV x] w fun e w'=>e=.returned (.bool (mayI x))∧Below w.heap.size w w':=by
 obtain ⟨op,d,n,m,i⟩:=x
 unfold insV mayI
 simp only
 have HD:Hid (∀ W,Calls Tryz.prog 41 #[.int .i64 d,.int .i64 7] W fun e w'=>e=.returned (.bool (inB 0 7 d))∧W=w'):=Lib.hid (fun W=>num_any d 7 W)
 have HN:Hid (∀ W,Calls Tryz.prog 41 #[.int .i64 n,.int .i64 7] W fun e w'=>e=.returned (.bool (inB 0 7 n))∧W=w'):=Lib.hid (fun W=>num_any n 7 W)
 have HM:Hid (∀ W,Calls Tryz.prog 41 #[.int .i64 m,.int .i64 7] W fun e w'=>e=.returned (.bool (inB 0 7 m))∧W=w'):=Lib.hid (fun W=>num_any m 7 W)
 have HI:Hid (∀ W,Calls Tryz.prog 41 #[.int .i64 i,.int .i64 5] W fun e w'=>e=.returned (.bool (inB 0 5 i))∧W=w'):=Lib.hid (fun W=>num_any i 5 W)
 have hm7:inB 0 7 m=true→inB 0 3 m=decide (m≤3):=fun h=>inB_hi (inB_iff.1 h).1
 have Hm:=Lib.hid hm7
 clear hm7
 generalize inB 0 7 d=bd at *
 generalize inB 0 7 n=bn at *
 generalize inB 0 7 m=bm at *
 by_cases o1:op < 1
 ·have hr:(inB 1 16 op&&(bd&&(bn&&(bm&&(inB (-2048) 2047 i&&suitB ⟨op,d,n,m,i⟩)))))=false:=by rw [inB_no (by omega)];rfl
  rw [hr]
  clear hr
  go_enter Tryz.func49,Tryz.ntmps49
  go_wp2
  go_ret
  exact ⟨rfl,by go_grown⟩
 ·skip
  by_cases o2:16 < op
  ·have hr:(inB 1 16 op&&(bd&&(bn&&(bm&&(inB (-2048) 2047 i&&suitB ⟨op,d,n,m,i⟩)))))=false:=by rw [inB_no (by omega)];rfl
   rw [hr]
   clear hr
   go_enter Tryz.func49,Tryz.ntmps49
   go_wp2
   go_ret
   exact ⟨rfl,by go_grown⟩
  ·skip
   have oi:inB 1 16 op=true:=inB_iff.2 (by omega)
   have OI:=Lib.hid oi
   clear oi
   cases bd
   ·have hr:(inB 1 16 op&&(false&&(bn&&(bm&&(inB (-2048) 2047 i&&suitB ⟨op,d,n,m,i⟩)))))=false:=by simp [OI.out]
    rw [hr]
    clear hr
    go_enter Tryz.func49,Tryz.ntmps49
    go_wp2_with fail
    refine (HD.out _).mono ?_
    rintro e w1 ⟨rfl,rfl⟩
    go_wp2
    go_ret
    exact ⟨rfl,by go_grown⟩
   ·skip
    cases bn
    ·have hr:(inB 1 16 op&&(true&&(false&&(bm&&(inB (-2048) 2047 i&&suitB ⟨op,d,n,m,i⟩)))))=false:=by simp [OI.out]
     rw [hr]
     clear hr
     go_enter Tryz.func49,Tryz.ntmps49
     go_wp2_with fail
     refine (HD.out _).mono ?_
     rintro e w1 ⟨rfl,rfl⟩
     go_wp2_with fail
     refine (HN.out _).mono ?_
     rintro e w2 ⟨rfl,rfl⟩
     go_wp2
     go_ret
     exact ⟨rfl,by go_grown⟩
    ·skip
     cases bm
     ·have hr:(inB 1 16 op&&(true&&(true&&(false&&(inB (-2048) 2047 i&&suitB ⟨op,d,n,m,i⟩)))))=false:=by simp [OI.out]
      rw [hr]
      clear hr
      go_enter Tryz.func49,Tryz.ntmps49
      go_wp2_with fail
      refine (HD.out _).mono ?_
      rintro e w1 ⟨rfl,rfl⟩
      go_wp2_with fail
      refine (HN.out _).mono ?_
      rintro e w2 ⟨rfl,rfl⟩
      go_wp2_with fail
      refine (HM.out _).mono ?_
      rintro e w3 ⟨rfl,rfl⟩
      go_wp2
      go_ret
      exact ⟨rfl,by go_grown⟩
     ·skip
      by_cases i1:i < -2048
      ·have hr:(inB 1 16 op&&(true&&(true&&(true&&(inB (-2048) 2047 i&&suitB ⟨op,d,n,m,i⟩)))))=false:=by rw [inB_no (show ¬ (-2048≤i∧i≤2047) by omega)];simp [OI.out]
       rw [hr]
       clear hr
       go_enter Tryz.func49,Tryz.ntmps49
       go_wp2_with fail
       refine (HD.out _).mono ?_
       rintro e w1 ⟨rfl,rfl⟩
       go_wp2_with fail
       refine (HN.out _).mono ?_
       rintro e w2 ⟨rfl,rfl⟩
       go_wp2_with fail
       refine (HM.out _).mono ?_
       rintro e w3 ⟨rfl,rfl⟩
       go_wp2
       go_ret
       exact ⟨rfl,by go_grown⟩
      ·skip
       by_cases i2:2047 < i
       ·have hr:(inB 1 16 op&&(true&&(true&&(true&&(inB (-2048) 2047 i&&suitB ⟨op,d,n,m,i⟩)))))=false:=by rw [inB_no (show ¬ (-2048≤i∧i≤2047) by omega)];simp [OI.out]
        rw [hr]
        clear hr
        go_enter Tryz.func49,Tryz.ntmps49
        go_wp2_with fail
        refine (HD.out _).mono ?_
        rintro e w1 ⟨rfl,rfl⟩
        go_wp2_with fail
        refine (HN.out _).mono ?_
        rintro e w2 ⟨rfl,rfl⟩
        go_wp2_with fail
        refine (HM.out _).mono ?_
        rintro e w3 ⟨rfl,rfl⟩
        go_wp2
        go_ret
        exact ⟨rfl,by go_grown⟩
       ·skip
        have hs:(inB 1 16 op&&(true&&(true&&(true&&(inB (-2048) 2047 i&&suitB ⟨op,d,n,m,i⟩)))))=suitB ⟨op,d,n,m,i⟩:=by rw [OI.out,inB_iff.2 (show -2048≤i∧i≤2047 by omega)];rfl
        rw [hs]
        clear hs
        by_cases e7:op=7
        ·have hr:suitB ⟨op,d,n,m,i⟩=decide (m≤3):=by subst e7;rw [← Hm.out (by first | trivial | rfl)];rfl
         rw [hr]
         clear hr
         subst e7
         go_enter Tryz.func49,Tryz.ntmps49
         go_wp2_with fail
         refine (HD.out _).mono ?_
         rintro e w1 ⟨rfl,rfl⟩
         go_wp2_with fail
         refine (HN.out _).mono ?_
         rintro e w2 ⟨rfl,rfl⟩
         go_wp2_with fail
         refine (HM.out _).mono ?_
         rintro e w3 ⟨rfl,rfl⟩
         go_wp2
         go_ret
         exact ⟨rfl,by go_grown⟩
        ·skip
         by_cases e8:op=8
         ·have hr:suitB ⟨op,d,n,m,i⟩=decide (m≤3):=by subst e8;rw [← Hm.out (by first | trivial | rfl)];rfl
          rw [hr]
          clear hr
          subst e8
          go_enter Tryz.func49,Tryz.ntmps49
          go_wp2_with fail
          refine (HD.out _).mono ?_
          rintro e w1 ⟨rfl,rfl⟩
          go_wp2_with fail
          refine (HN.out _).mono ?_
          rintro e w2 ⟨rfl,rfl⟩
          go_wp2_with fail
          refine (HM.out _).mono ?_
          rintro e w3 ⟨rfl,rfl⟩
          go_wp2
          go_ret
          exact ⟨rfl,by go_grown⟩
         ·skip
          by_cases e11:op=11
          ·have hr:suitB ⟨op,d,n,m,i⟩=inB 0 5 i:=by subst e11;rfl
           rw [hr]
           clear hr
           subst e11
           go_enter Tryz.func49,Tryz.ntmps49
           go_wp2_with fail
           refine (HD.out _).mono ?_
           rintro e w1 ⟨rfl,rfl⟩
           go_wp2_with fail
           refine (HN.out _).mono ?_
           rintro e w2 ⟨rfl,rfl⟩
           go_wp2_with fail
           refine (HM.out _).mono ?_
           rintro e w3 ⟨rfl,rfl⟩
           go_wp2_with fail
           refine (HI.out _).mono ?_
           rintro e w4 ⟨rfl,rfl⟩
           go_wp2
           go_ret
           exact ⟨rfl,by go_grown⟩
          ·skip
           by_cases e12:op=12
           ·have hr:suitB ⟨op,d,n,m,i⟩=inB 0 5 i:=by subst e12;rfl
            rw [hr]
            clear hr
            subst e12
            go_enter Tryz.func49,Tryz.ntmps49
            go_wp2_with fail
            refine (HD.out _).mono ?_
            rintro e w1 ⟨rfl,rfl⟩
            go_wp2_with fail
            refine (HN.out _).mono ?_
            rintro e w2 ⟨rfl,rfl⟩
            go_wp2_with fail
            refine (HM.out _).mono ?_
            rintro e w3 ⟨rfl,rfl⟩
            go_wp2_with fail
            refine (HI.out _).mono ?_
            rintro e w4 ⟨rfl,rfl⟩
            go_wp2
            go_ret
            exact ⟨rfl,by go_grown⟩
           ·skip
            by_cases e13:op=13
            ·by_cases h3:3≤i
             ·have hr:suitB ⟨op,d,n,m,i⟩=decide (i≤5):=by subst e13;exact inB_hi h3
              rw [hr]
              clear hr
              subst e13
              go_enter Tryz.func49,Tryz.ntmps49
              go_wp2_with fail
              refine (HD.out _).mono ?_
              rintro e w1 ⟨rfl,rfl⟩
              go_wp2_with fail
              refine (HN.out _).mono ?_
              rintro e w2 ⟨rfl,rfl⟩
              go_wp2_with fail
              refine (HM.out _).mono ?_
              rintro e w3 ⟨rfl,rfl⟩
              go_wp2
              go_ret
              exact ⟨rfl,by go_grown⟩
             ·have hr:suitB ⟨op,d,n,m,i⟩=false:=by subst e13;exact inB_no (show ¬ (3≤i∧i≤5) by omega)
              rw [hr]
              clear hr
              subst e13
              go_enter Tryz.func49,Tryz.ntmps49
              go_wp2_with fail
              refine (HD.out _).mono ?_
              rintro e w1 ⟨rfl,rfl⟩
              go_wp2_with fail
              refine (HN.out _).mono ?_
              rintro e w2 ⟨rfl,rfl⟩
              go_wp2_with fail
              refine (HM.out _).mono ?_
              rintro e w3 ⟨rfl,rfl⟩
              go_wp2
              go_ret
              exact ⟨rfl,by go_grown⟩
            ·have hr:suitB ⟨op,d,n,m,i⟩=true:=by unfold suitB;simp only;rw [if_neg (by omega),if_neg (by omega),if_neg (by omega)]
             rw [hr]
             clear hr
             have q7:(op==7)=false:=by rw [int_beq];exact decide_eq_false e7
             have q8:(op==8)=false:=by rw [int_beq];exact decide_eq_false e8
             have q11:(op==11)=false:=by rw [int_beq];exact decide_eq_false e11
             have q12:(op==12)=false:=by rw [int_beq];exact decide_eq_false e12
             have q13:(op==13)=false:=by rw [int_beq];exact decide_eq_false e13
             go_enter Tryz.func49,Tryz.ntmps49
             go_wp2_with fail
             refine (HD.out _).mono ?_
             rintro e w1 ⟨rfl,rfl⟩
             go_wp2_with fail
             refine (HN.out _).mono ?_
             rintro e w2 ⟨rfl,rfl⟩
             go_wp2_with fail
             refine (HM.out _).mono ?_
             rintro e w3 ⟨rfl,rfl⟩
             go_wp2
             go_ret
             exact ⟨rfl,by go_grown⟩
theorem or32 (x a:Int) (k:Nat) (p c:Int) (hp:p=2 ^ k) (hc:c=x+a) (hx:x % p=0) (h0:0≤a) (h1:a < p) (h2:0≤x) (h3:x < 4294967296) (hp2:p≤4294967296):bits .or .u32 x a=c:=by
 subst hc
 obtain ⟨a,rfl⟩:∃ y:Nat,a=y:=⟨a.toNat,by omega⟩
 obtain ⟨x,rfl⟩:∃ y:Nat,x=y:=⟨x.toNat,by omega⟩
 obtain ⟨q,hq⟩:∃ q:Nat,q=2 ^ k:=⟨_,rfl⟩
 have hpq:p=(q:Int):=by rw [hp,hq];exact (Int.natCast_pow 2 k).symm
 subst hpq
 rw [u32_or_nat _ _ (by omega) (by omega),nat_join k x a (by rw [← hq];omega) (by omega)]
 omega
set_option maxRecDepth 100000 in
theorem riword_any (op d n m i:Int) (h:mayI ⟨op,d,n,m,i⟩=true) (w:World) :
  Calls Tryz.prog 52 #[.agg #[.int .i64 op,.int .i64 d,.int .i64 n,.int .i64 m,.int .i64 i]] w fun e w'=>e=.returned (.int .u32 (wordI ⟨op,d,n,m,i⟩))∧Below w.heap.size w w':=by
 obtain ⟨⟨a0,a1⟩,⟨b0,b1⟩,⟨c0,c1⟩,⟨d0,d1⟩,⟨e0,e1⟩,_⟩:=mayI_iff.1 h
 simp only at a0 a1 b0 b1 c0 c1 d0 d1 e0 e1
 have x0:IntKind.u32.wrap op=op:=by rw [IntKind.wrap_u32'];omega
 have x1:IntKind.u32.wrap d=d:=by rw [IntKind.wrap_u32'];omega
 have x2:IntKind.u32.wrap n=n:=by rw [IntKind.wrap_u32'];omega
 have x3:IntKind.u32.wrap m=m:=by rw [IntKind.wrap_u32'];omega
 have x4:IntKind.u32.wrap i=i % 4294967296:=IntKind.wrap_u32' i
 have y0:IntKind.u32.wrap (op * 134217728)=op * 134217728:=by rw [IntKind.wrap_u32'];omega
 have y1:IntKind.u32.wrap (d * 16777216)=d * 16777216:=by rw [IntKind.wrap_u32'];omega
 have y2:IntKind.u32.wrap (n * 2097152)=n * 2097152:=by rw [IntKind.wrap_u32'];omega
 have y3:IntKind.u32.wrap (m * 262144)=m * 262144:=by rw [IntKind.wrap_u32'];omega
 go_enter Tryz.func52,Tryz.ntmps52
 go_wp2
 go_ret
 refine ⟨ret_int ?_,by go_grown⟩
 have za:bits .and .u32 (i % 4294967296) 4095=i % 4096:=by
  rw [u32_and _ _ (by omega) (by omega) (by decide) (by decide)]
  have:(i % 4294967296).toNat&&& (4095:Int).toNat=(i % 4294967296).toNat % 2 ^ 12:=Nat.and_two_pow_sub_one_eq_mod _ 12
  rw [this]
  omega
 rw [za,or32 (op * 134217728) (d * 16777216) 27 134217728 _ (by decide) rfl (by omega) (by omega) (by omega) (by omega) (by omega) (by decide),
  or32 _ (n * 2097152) 24 16777216 _ (by decide) rfl (by omega) (by omega) (by omega) (by omega) (by omega) (by decide),
  or32 _ (m * 262144) 21 2097152 _ (by decide) rfl (by omega) (by omega) (by omega) (by omega) (by omega) (by decide),
  or32 _ (i % 4096) 18 262144 _ (by decide) rfl (by omega) (by omega) (by omega) (by omega) (by omega) (by decide)]
 rfl
end
section
open Go.ChangeShapes Go.WideShapes Go.ChangeAt Go.RowKit Go.Deep
def mayDo (x:Ins):Bool:=mayI x&&decide (x.op≤6)
def immW (i:Int):BitVec 64:=BitVec.ofInt 64 i
def doI (op i:Int) (n m:BitVec 64):BitVec 64:=
 if op=1 then immW i else if op=2 then n+m+immW i else if op=3 then n - m - immW i else if op=4 then n&&& m else if op=5 then n||| m else n ^^^ m
end
section
open Go.ChangeShapes Go.WideShapes Go.ChangeAt Go.RowKit Go.Deep
end
section
open Go.ChangeShapes Go.WideShapes Go.ChangeAt Go.RowKit Go.Deep
def AluDoC:Prop:=∀ (x:Ins) (a b:BitVec 64) (w:World),
 Calls Tryz.prog 131 #[insV x,.int .u64 (u a),.int .u64 (u b)] w fun e w'=>e=.returned (.tuple #[.int .u64 (if mayDo x=true then u (doI x.op x.i a b) else 0),.int .i64 (if mayDo x=true then 0 else 1)])∧Below w.heap.size w w'
def sumX (X:Nat→BitVec 64):Nat→BitVec 64
 | 0=>0#64
 | k+1=>sumX X k+X k
def AluSumC:Prop:=∀ (f:Option Addr) (l c:Nat) (X:Nat→BitVec 64) (w:World),WordsAt w f l X→l≤1000000→
 Calls Tryz.prog 160 #[.slice f l c] w fun e w'=>e=.returned (.int .u64 (u (sumX X l)))∧Below w.heap.size w w'
structure Q12 where
 x:Ins
 a:BitVec 64
 b:BitVec 64
 f:Option Addr
 l:Nat
 c:Nat
 X:Nat→BitVec 64
structure Ok12 (W:World) (q:Q12):Prop where
 words:WordsAt W q.f q.l q.X
 n1:q.l≤1000000000000000
theorem Ok12.below {W w:World} {q:Q12} (h:Ok12 W q) (hb:Below W.heap.size W w):Ok12 w q:=⟨h.words.below hb,h.n1⟩
section
variable {H:Type} {enc:TypeId×Value→H} {w:World} {base:Nat} {held:Bool}
end
end
section
open Go.ChangeShapes Go.WideShapes Go.ChangeAt Go.RowKit Go.Deep
set_option maxRecDepth 100000 in
theorem aluSumC:AluSumC:=by
 intro f l c X w hX hl
 have HX:=Lib.hid hX
 clear hX
 have h0:(0:Int)=u (sumX X 0):=by show 0=u 0#64;decide
 have HZ:=Lib.hid h0
 clear h0
 go_enter Tryz.func160,Tryz.ntmps160
 go_wp2
 go_loopw [3,8] (fun s i wr=>∃ k:Nat,k≤l∧s=.int .u64 (u (sumX X k))∧i=.int .i64 k∧wr=w) (fun _ i _=>l - (intOf i).toNat)
 case atStart=>exact ⟨0,Nat.zero_le _,by rw [← HZ.out],rfl,rfl⟩
 case round=>
  obtain ⟨k,hk,rfl,rfl,rfl⟩:=hrel
  by_cases hlt:k < l
  ·obtain ⟨b,o,rfl,hc⟩:=HX.out k hlt
   have i0:(0:Int)≤(k:Int):=by omega
   have i1:(k:Int) < (l:Int):=by omega
   have HN:=Lib.hid (show sumX X (k+1)=sumX X k+X k from rfl)
   go_wp2
   go_roundw
   case rel=>exact ⟨k+1,by omega,by rw [HN.out],by go_num,by first | trivial | rfl⟩
   case measure=>simp [intOf];omega
  ·obtain rfl:k=l:=by omega
   go_wp2
   go_ret
   exact ⟨rfl,Below.refl _ _⟩
theorem aimm_any (op d n m i:Int) (w:World) :
  Calls Tryz.prog 216 #[.agg #[.int .i64 op,.int .i64 d,.int .i64 n,.int .i64 m,.int .i64 i]] w fun e w'=>e=.returned (.int .u64 (u (immW i)))∧Below w.heap.size w w':=by
 have hcv:IntKind.u64.wrap i=u (immW i):=u_conv i
 go_enter Tryz.func216,Tryz.ntmps216
 go_wp2
 go_ret
 exact ⟨rfl,by go_grown⟩
theorem awith_any (op d n m i:Int) (a b:BitVec 64) (w:World) :
  Calls Tryz.prog 168 #[.agg #[.int .i64 op,.int .i64 d,.int .i64 n,.int .i64 m,.int .i64 i],.int .u64 (u a),.int .u64 (u b)] w fun e w'=>e=.returned (.agg #[.int .i64 op,.int .i64 d,.int .i64 n,.int .i64 m,.int .i64 i,.int .u64 (u a),.int .u64 (u b)])∧Below w.heap.size w w':=by
 go_enter Tryz.func168,Tryz.ntmps168
 go_wp2
 refine bodyPost_ret (v:=.agg #[.int .i64 op,.int .i64 d,.int .i64 n,.int .i64 m,.int .i64 i,.int .u64 (u a),.int .u64 (u b)]) (by simp [results,Tryz.results168,go_sem]) rfl ?_
 exact ⟨rfl,by go_grown⟩
theorem amayBe_any (op d n m i:Int) (w:World) :
  Calls Tryz.prog 167 #[.agg #[.int .i64 op,.int .i64 d,.int .i64 n,.int .i64 m,.int .i64 i]] w fun e w'=>e=.returned (.bool (mayDo ⟨op,d,n,m,i⟩))∧Below w.heap.size w w':=by
 have HC:=Lib.hid (fun W=>inCheckC ⟨op,d,n,m,i⟩ W)
 have hm:mayDo ⟨op,d,n,m,i⟩=(mayI ⟨op,d,n,m,i⟩&&decide (op≤6)):=rfl
 rw [hm]
 clear hm
 unfold insV at *
 simp only at *
 generalize mayI ⟨op,d,n,m,i⟩=mb at *
 have X0:=Lib.hid (BoxAt.new w #[.int .i64 op,.int .i64 d,.int .i64 n,.int .i64 m,.int .i64 i] 226)
 cases mb
 ·rw [if_neg (by decide)] at HC
  go_enter Tryz.func167,Tryz.ntmps167
  go_wp2_with fail
  refine (HC.out _).mono ?_
  rintro e w1 ⟨rfl,hb1⟩
  go_wp2
  go_ret
  exact ⟨rfl,bel_trans (bel_alloc (Below.refl _ _) _) hb1⟩
 ·rw [if_pos rfl] at HC
  go_enter Tryz.func167,Tryz.ntmps167
  go_wp2_with fail
  refine (HC.out _).mono ?_
  rintro e w1 ⟨rfl,hb1⟩
  have x0:=(X0.out.below hb1).get 0 (.int .i64 op) rfl
  have HB:=Lib.hid hb1
  clear hb1
  go_wp2
  go_ret
  exact ⟨ret_bool (by simp),bel_trans (bel_alloc (Below.refl _ _) _) HB.out⟩
def threeX (x y z:BitVec 64) (j:Nat):BitVec 64:=if j=0 then x else if j=1 then y else z
theorem three_sumX (x y z:BitVec 64):sumX (threeX x y z) 3=x+y+z:=by
 show 0#64+x+y+z=x+y+z
 rw [BitVec.zero_add]
theorem two_sumX (x y z:BitVec 64):sumX (threeX x y z) 2=x+y:=by
 show 0#64+x+y=x+y
 rw [BitVec.zero_add]
theorem three_at {W:World} {b:Nat} {t:TypeId} {x y z:BitVec 64} (h:BoxAt W b #[.int .u64 (u x),.int .u64 (u y),.int .u64 (u z)] t):WordsAt W (some ⟨b,0,none⟩) 3 (threeX x y z):=by
 intro j hj
 refine ⟨b,0,rfl,?_⟩
 match j,hj with
 | 0,_=>exact h.get 0 _ rfl
 | 1,_=>exact h.get 1 _ rfl
 | 2,_=>exact h.get 2 _ rfl
theorem two_at {W:World} {b:Nat} {t:TypeId} {x y z:BitVec 64} (h:BoxAt W b #[.int .u64 (u x),.int .u64 (u y)] t):WordsAt W (some ⟨b,0,none⟩) 2 (threeX x y z):=by
 intro j hj
 refine ⟨b,0,rfl,?_⟩
 match j,hj with
 | 0,_=>exact h.get 0 _ rfl
 | 1,_=>exact h.get 1 _ rfl
theorem three_call (x y z:BitVec 64) (W:World) (t:TypeId) :
  Calls Tryz.prog 160 #[.slice (some ⟨W.heap.size,0,none⟩) 3 3] (W.alloc (.cells #[.int .u64 (u x),.int .u64 (u y),.int .u64 (u z)] t)) fun e w'=>e=.returned (.int .u64 (u (x+y+z)))∧Below W.heap.size W w':=by
 refine (aluSumC _ 3 3 _ _ (three_at (BoxAt.new W _ t)) (by decide)).mono ?_
 rintro e w' ⟨rfl,hb⟩
 rw [three_sumX]
 exact ⟨rfl,bel_trans (bel_alloc (Below.refl _ _) _) hb⟩
theorem two_call (x y:BitVec 64) (W:World) (t:TypeId) :
  Calls Tryz.prog 160 #[.slice (some ⟨W.heap.size,0,none⟩) 2 2] (W.alloc (.cells #[.int .u64 (u x),.int .u64 (u y)] t)) fun e w'=>e=.returned (.int .u64 (u (x+y)))∧Below W.heap.size W w':=by
 refine (aluSumC _ 2 2 _ _ (two_at (z:=0#64) (BoxAt.new W _ t)) (by decide)).mono ?_
 rintro e w' ⟨rfl,hb⟩
 rw [two_sumX]
 exact ⟨rfl,bel_trans (bel_alloc (Below.refl _ _) _) hb⟩
theorem ares1_any (d n m i:Int) (a b:BitVec 64) (w:World) :
  Calls Tryz.prog 169 #[.agg #[.int .i64 1,.int .i64 d,.int .i64 n,.int .i64 m,.int .i64 i,.int .u64 (u a),.int .u64 (u b)]] w fun e w'=>e=.returned (.int .u64 (u (immW i)))∧Below w.heap.size w w':=by
 have HI:=Lib.hid (fun W=>aimm_any 1 d n m i W)
 go_enter Tryz.func169,Tryz.ntmps169
 go_wp2_with fail
 refine (HI.out _).mono ?_
 rintro e w1 ⟨rfl,hb1⟩
 go_wp2
 go_ret
 exact ⟨rfl,bel_trans (bel_alloc (Below.refl _ _) _) hb1⟩
set_option maxRecDepth 100000 in
set_option maxHeartbeats 1600000 in
theorem ares2_any (d n m i:Int) (a b:BitVec 64) (w:World) :
  Calls Tryz.prog 169 #[.agg #[.int .i64 2,.int .i64 d,.int .i64 n,.int .i64 m,.int .i64 i,.int .u64 (u a),.int .u64 (u b)]] w fun e w'=>e=.returned (.int .u64 (u (a+b+immW i)))∧Below w.heap.size w w':=by
 have HI:=Lib.hid (fun W=>aimm_any 2 d n m i W)
 have X0:=BoxAt.new w #[.int .i64 2,.int .i64 d,.int .i64 n,.int .i64 m,.int .i64 i,.int .u64 (u a),.int .u64 (u b)] 228
 have x0:=X0.get 0 (.int .i64 2) rfl
 have x1:=X0.get 1 (.int .i64 d) rfl
 have x2:=X0.get 2 (.int .i64 n) rfl
 have x3:=X0.get 3 (.int .i64 m) rfl
 have x4:=X0.get 4 (.int .i64 i) rfl
 have x5:=X0.get 5 (.int .u64 (u a)) rfl
 have x6:=X0.get 6 (.int .u64 (u b)) rfl
 clear X0
 go_enter Tryz.func169,Tryz.ntmps169
 go_upto_region 5 with fail
 go_region_held3 (fun w'=>w'.cell? ⟨w.heap.size,0,none⟩=some (.int .i64 2)∧w'.cell? ⟨w.heap.size,1,none⟩=some (.int .i64 d)∧w'.cell? ⟨w.heap.size,2,none⟩=some (.int .i64 n)∧w'.cell? ⟨w.heap.size,3,none⟩=some (.int .i64 m)∧w'.cell? ⟨w.heap.size,4,none⟩=some (.int .i64 i)∧w'.cell? ⟨w.heap.size,5,none⟩=some (.int .u64 (u a))∧w'.cell? ⟨w.heap.size,6,none⟩=some (.int .u64 (u b)))
  (first | go_keep | (refine ⟨?_,?_,?_,?_,?_,?_,?_⟩<;>(repeat (first | with_reducible assumption | with_reducible refine kcG_alloc ?_ _ | with_reducible refine kcG_drew ?_ | (refine kcG_below (by assumption) ?_)))))
  (first
   | (go_at_call 216;refine (HI.out _).mono ?_;rintro e w1 ⟨rfl,hb1⟩)
   | (go_at_call 160;refine (three_call _ _ _ _ _).mono ?_;rintro e w2 ⟨rfl,hb2⟩))
 go_wp2
 go_ret
 exact ⟨rfl,bel_trans (bel_trans (Below.drew (bel_alloc (Below.refl w.heap.size w) _)) hb1) hb2⟩
set_option maxRecDepth 100000 in
set_option maxHeartbeats 1600000 in
theorem ares3_any (d n m i:Int) (a b:BitVec 64) (w:World) :
  Calls Tryz.prog 169 #[.agg #[.int .i64 3,.int .i64 d,.int .i64 n,.int .i64 m,.int .i64 i,.int .u64 (u a),.int .u64 (u b)]] w fun e w'=>e=.returned (.int .u64 (u (a - (b+immW i))))∧Below w.heap.size w w':=by
 have HI:=Lib.hid (fun W=>aimm_any 3 d n m i W)
 have X0:=BoxAt.new w #[.int .i64 3,.int .i64 d,.int .i64 n,.int .i64 m,.int .i64 i,.int .u64 (u a),.int .u64 (u b)] 228
 have x0:=X0.get 0 (.int .i64 3) rfl
 have x1:=X0.get 1 (.int .i64 d) rfl
 have x2:=X0.get 2 (.int .i64 n) rfl
 have x3:=X0.get 3 (.int .i64 m) rfl
 have x4:=X0.get 4 (.int .i64 i) rfl
 have x5:=X0.get 5 (.int .u64 (u a)) rfl
 have x6:=X0.get 6 (.int .u64 (u b)) rfl
 clear X0
 go_enter Tryz.func169,Tryz.ntmps169
 go_upto_region 7 with fail
 go_region_held3 (fun w'=>w'.cell? ⟨w.heap.size,0,none⟩=some (.int .i64 3)∧w'.cell? ⟨w.heap.size,1,none⟩=some (.int .i64 d)∧w'.cell? ⟨w.heap.size,2,none⟩=some (.int .i64 n)∧w'.cell? ⟨w.heap.size,3,none⟩=some (.int .i64 m)∧w'.cell? ⟨w.heap.size,4,none⟩=some (.int .i64 i)∧w'.cell? ⟨w.heap.size,5,none⟩=some (.int .u64 (u a))∧w'.cell? ⟨w.heap.size,6,none⟩=some (.int .u64 (u b)))
  (first | go_keep | (refine ⟨?_,?_,?_,?_,?_,?_,?_⟩<;>(repeat (first | with_reducible assumption | with_reducible refine kcG_alloc ?_ _ | with_reducible refine kcG_drew ?_ | (refine kcG_below (by assumption) ?_)))))
  (first
   | (go_at_call 216;refine (HI.out _).mono ?_;rintro e w1 ⟨rfl,hb1⟩)
   | (go_at_call 160;refine (two_call _ _ _ _).mono ?_;rintro e w2 ⟨rfl,hb2⟩))
 go_wp2
 go_ret
 exact ⟨rfl,bel_trans (bel_trans (Below.drew (bel_alloc (Below.refl w.heap.size w) _)) hb1) hb2⟩
theorem ares4_any (op d n m i:Int) (a b:BitVec 64) (w:World) (h1:op≠1) (h2:op≠2) (h3:op≠3) (h4:4≤op) (h6:op≤6) :
  Calls Tryz.prog 169 #[.agg #[.int .i64 op,.int .i64 d,.int .i64 n,.int .i64 m,.int .i64 i,.int .u64 (u a),.int .u64 (u b)]] w fun e w'=>e=.returned (.int .u64 (u (doI op i a b)))∧Below w.heap.size w w':=by
 have q1:(op==1)=false:=by rw [int_beq];exact decide_eq_false h1
 have q2:(op==2)=false:=by rw [int_beq];exact decide_eq_false h2
 have q3:(op==3)=false:=by rw [int_beq];exact decide_eq_false h3
 unfold doI
 rw [if_neg h1,if_neg h2,if_neg h3]
 by_cases e4:op=4
 ·subst e4
  clear q1 q2 q3
  go_enter Tryz.func169,Tryz.ntmps169
  go_wp2
  go_ret
  exact ⟨ret_int (by simp),by go_grown⟩
 ·by_cases e5:op=5
  ·subst e5
   clear q1 q2 q3
   go_enter Tryz.func169,Tryz.ntmps169
   go_wp2
   go_ret
   exact ⟨ret_int (by simp),by go_grown⟩
  ·obtain rfl:op=6:=by omega
   clear q1 q2 q3
   go_enter Tryz.func169,Tryz.ntmps169
   go_wp2
   go_ret
   exact ⟨ret_int (by simp),by go_grown⟩
theorem ares_any (op d n m i:Int) (a b:BitVec 64) (w:World) (h1:1≤op) (h6:op≤6) :
  Calls Tryz.prog 169 #[.agg #[.int .i64 op,.int .i64 d,.int .i64 n,.int .i64 m,.int .i64 i,.int .u64 (u a),.int .u64 (u b)]] w fun e w'=>e=.returned (.int .u64 (u (doI op i a b)))∧Below w.heap.size w w':=by
 by_cases e1:op=1
 ·subst e1
  exact ares1_any d n m i a b w
 ·by_cases e2:op=2
  ·subst e2
   exact ares2_any d n m i a b w
  ·by_cases e3:op=3
   ·subst e3
    rw [show doI 3 i a b=a - (b+immW i) from (BitVec.sub_sub a b (immW i)).trans rfl]
    exact ares3_any d n m i a b w
   ·exact ares4_any op d n m i a b w e1 e2 e3 (by omega) h6
theorem aluDoC:AluDoC:=by
 intro x a b w
 obtain ⟨op,d,n,m,i⟩:=x
 have HM:=Lib.hid (fun W=>amayBe_any op d n m i W)
 have hr:mayDo ⟨op,d,n,m,i⟩=true→∀ W,Calls Tryz.prog 169 #[.agg #[.int .i64 op,.int .i64 d,.int .i64 n,.int .i64 m,.int .i64 i,.int .u64 (u a),.int .u64 (u b)]] W fun e w'=>e=.returned (.int .u64 (u (doI op i a b)))∧Below W.heap.size W w':=by
  intro h W
  have hm:(mayI ⟨op,d,n,m,i⟩&&decide (op≤6))=true:=h
  rw [Bool.and_eq_true,decide_eq_true_eq] at hm
  have h1:=(mayI_iff.1 hm.1).1.1
  exact ares_any op d n m i a b W h1 hm.2
 have HR:=Lib.hid hr
 clear hr
 have HW:=Lib.hid (fun W=>awith_any op d n m i a b W)
 unfold insV
 simp only
 generalize doI op i a b=rr at *
 generalize mayDo ⟨op,d,n,m,i⟩=mb at *
 have X0:=Lib.hid (BoxAt.new (w.alloc (.cells #[.int .i64 op,.int .i64 d,.int .i64 n,.int .i64 m,.int .i64 i] 41)) #[.int .i64 op,.int .i64 d,.int .i64 n,.int .i64 m,.int .i64 i] 226)
 cases mb
 ·rw [if_neg (by decide),if_neg (by decide)]
  go_enter Tryz.func131,Tryz.ntmps131
  go_wp2_with fail
  refine (HM.out _).mono ?_
  rintro e w1 ⟨rfl,hb1⟩
  go_wp2
  go_ret2
  exact ⟨rfl,bel_trans (bel_alloc (bel_alloc (Below.refl _ _) _) _) hb1⟩
 ·rw [if_pos rfl,if_pos rfl]
  have HR2:=Lib.hid (HR.out rfl)
  go_enter Tryz.func131,Tryz.ntmps131
  go_wp2_with fail
  refine (HM.out _).mono ?_
  rintro e w1 ⟨rfl,hb1⟩
  have x1:=X0.out.below hb1
  rw [World.size_alloc] at x1
  have x0:=x1.get 0 (.int .i64 op) rfl
  have x2:=x1.get 1 (.int .i64 d) rfl
  have x3:=x1.get 2 (.int .i64 n) rfl
  have x4:=x1.get 3 (.int .i64 m) rfl
  have x5:=x1.get 4 (.int .i64 i) rfl
  have HB:=Lib.hid hb1
  clear hb1 x1
  go_wp2_with fail
  refine (HW.out _).mono ?_
  rintro e w2 ⟨rfl,hb2⟩
  have HB2:=Lib.hid hb2
  clear hb2
  go_wp2_with fail
  refine (HR2.out _).mono ?_
  rintro e w3 ⟨rfl,hb3⟩
  go_wp2
  go_ret2
  exact ⟨rfl,bel_trans (bel_trans (bel_trans (bel_alloc (bel_alloc (Below.refl _ _) _) _) HB.out) HB2.out) hb3⟩
end
end Go.Proofs.YtlgpdbgingjpbaaGreat
