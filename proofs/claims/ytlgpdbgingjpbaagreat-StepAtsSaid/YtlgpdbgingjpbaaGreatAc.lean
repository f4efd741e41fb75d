/- The reference's Insn,Word,Of. What is reckoned,plainly;and bit by bit. Stage 12: what is reckoned bit by bit is what is reckoned at once. Stage 12: the reference's MayDo,Do;what the program's calls are held against;the argument,opened. -/
import Derived.Test.YtlgpdbgingjpbaaGreatGb
import Derived.Test.YtlgpdbgingjpbaaGreatHa
import Derived.Test.YtlgpdbgingjpbaaGreatHb
import Derived.Test.YtlgpdbgingjpbaaGreatGa
import Derived.Test.YtlgpdbgingjpbaaGreatEo
set_option linter.all false
namespace Go.Proofs.YtlgpdbgingjpbaaGreat
section
open Go.ChangeShapes Go.WideShapes Go.ChangeAt Go.RowKit Go.Deep
theorem inB_no {a b n:Int} (h:¬ (a≤n∧n≤b)):inB a b n=false:=by simp only [inB];exact decide_eq_false h
theorem inB_hi {a b n:Int} (h:a≤n):inB a b n=decide (n≤b):=by simp [inB,h]
set_option maxRecDepth 100000 in
set_option maxHeartbeats 3200000 in
theorem rinsn_any (x:Ins) (w:World) :
  Calls Tryz.prog 49 #[insV x] w fun e w'=>e=.returned (.bool (mayI x))∧Below w.heap.size w w':=by
 obtain ⟨op,d,n,m,i⟩:=x
 unfold insV mayI
 simp only
 have HD:Hid (∀ W,Calls Tryz.prog 41 #[.int .i64 d,.int .i64 7] W fun e w'=>e=.returned (.bool (inB 0 7 d))∧W=w'):=Lib.hid (fun W=>num_any d 7 W)
 have HN:Hid (∀ W,Calls Tryz.prog 41 #[.int .i64 n,.int .i64 7] W fun e w'=>e=.returned (.bool (inB 0 7 n))∧W=w'):=Lib.hid (fun W=>num_any n 7 W)
 have HM:Hid (∀ W,Calls Tryz.prog 41 #[.int .i64 m,.int .i64 7] W fun e w'=>e=.returned (.bool (inB 0 7 m))∧W=w'):=Lib.hid (fun W=>num_any m 7 W)
 have HI:Hid (∀ W,Calls Tryz.prog 41 #[.int .i64 i,.int .i64 5] W fun e w'=>e=.returned (.bool (inB 0 5 i))∧W=w'):=Lib.hid (fun W=>num_any i 5 W)
 have hm7:inB 0 7 m=true→inB 0 3 m=decide (m≤3):=fun h=>inB_hi (inB_iff.1 h).1
 have Hm:=Lib.hid hm7
 clear hm7
 generalize inB 0 7 d=bd at *
 generalize inB 0 7 n=bn at *
 generalize inB 0 7 m=bm at *
 by_cases o1:op < 1
 ·have hr:(inB 1 16 op&&(bd&&(bn&&(bm&&(inB (-2048) 2047 i&&suitB ⟨op,d,n,m,i⟩)))))=false:=by rw [inB_no (by omega)];rfl
  rw [hr]
  clear hr
  go_enter Tryz.func49,Tryz.ntmps49
  go_wp2
  go_ret
  exact ⟨rfl,by go_grown⟩
 ·skip
  by_cases o2:16 < op
  ·have hr:(inB 1 16 op&&(bd&&(bn&&(bm&&(inB (-2048) 2047 i&&suitB ⟨op,d,n,m,i⟩)))))=false:=by rw [inB_no (by omega)];rfl
   rw [hr]
   clear hr
   go_enter Tryz.func49,Tryz.ntmps49
   go_wp2
   go_ret
   exact ⟨rfl,by go_grown⟩
  ·skip
   have oi:inB 1 16 op=true:=inB_iff.2 (by omega)
   have OI:=Lib.hid oi
   clear oi
   cases bd
   ·have hr:(inB 1 16 op&&(false&&(bn&&(bm&&(inB (-2048) 2047 i&&suitB ⟨op,d,n,m,i⟩)))))=false:=by simp [OI.out]
    rw [hr]
    clear hr
    go_enter Tryz.func49,Tryz.ntmps49
    go_wp2_with fail
    refine (HD.out _).mono ?_
    rintro e w1 ⟨rfl,rfl⟩
    go_wp2
    go_ret
    exact ⟨rfl,by go_grown⟩
   ·skip
    cases bn
    ·have hr:(inB 1 16 op&&(true&&(false&&(bm&&(inB (-2048) 2047 i&&suitB ⟨op,d,n,m,i⟩)))))=false:=by simp [OI.out]
     rw [hr]
     clear hr
     go_enter Tryz.func49,Tryz.ntmps49
     go_wp2_with fail
     refine (HD.out _).mono ?_
     rintro e w1 ⟨rfl,rfl⟩
     go_wp2_with fail
     refine (HN.out _).mono ?_
     rintro e w2 ⟨rfl,rfl⟩
     go_wp2
     go_ret
     exact ⟨rfl,by go_grown⟩
    ·skip
     cases bm
     ·have hr:(inB 1 16 op&&(true&&(true&&(false&&(inB (-2048) 2047 i&&suitB ⟨op,d,n,m,i⟩)))))=false:=by simp [OI.out]
      rw [hr]
      clear hr
      go_enter Tryz.func49,Tryz.ntmps49
      go_wp2_with fail
      refine (HD.out _).mono ?_
      rintro e w1 ⟨rfl,rfl⟩
      go_wp2_with fail
      refine (HN.out _).mono ?_
      rintro e w2 ⟨rfl,rfl⟩
      go_wp2_with fail
      refine (HM.out _).mono ?_
      rintro e w3 ⟨rfl,rfl⟩
      go_wp2
      go_ret
      exact ⟨rfl,by go_grown⟩
     ·skip
      by_cases i1:i < -2048
      ·have hr:(inB 1 16 op&&(true&&(true&&(true&&(inB (-2048) 2047 i&&suitB ⟨op,d,n,m,i⟩)))))=false:=by rw [inB_no (show ¬ (-2048≤i∧i≤2047) by omega)];simp [OI.out]
       rw [hr]
       clear hr
       go_enter Tryz.func49,Tryz.ntmps49
       go_wp2_with fail
       refine (HD.out _).mono ?_
       rintro e w1 ⟨rfl,rfl⟩
       go_wp2_with fail
       refine (HN.out _).mono ?_
       rintro e w2 ⟨rfl,rfl⟩
       go_wp2_with fail
       refine (HM.out _).mono ?_
       rintro e w3 ⟨rfl,rfl⟩
       go_wp2
       go_ret
       exact ⟨rfl,by go_grown⟩
      ·skip
       by_cases i2:2047 < i
       ·have hr:(inB 1 16 op&&(true&&(true&&(true&&(inB (-2048) 2047 i&&suitB ⟨op,d,n,m,i⟩)))))=false:=by rw [inB_no (show ¬ (-2048≤i∧i≤2047) by omega)];simp [OI.out]
        rw [hr]
        clear hr
        go_enter Tryz.func49,Tryz.ntmps49
        go_wp2_with fail
        refine (HD.out _).mono ?_
        rintro e w1 ⟨rfl,rfl⟩
        go_wp2_with fail
        refine (HN.out _).mono ?_
        rintro e w2 ⟨rfl,rfl⟩
        go_wp2_with fail
        refine (HM.out _).mono ?_
        rintro e w3 ⟨rfl,rfl⟩
        go_wp2
        go_ret
        exact ⟨rfl,by go_grown⟩
       ·skip
        have hs:(inB 1 16 op&&(true&&(true&&(true&&(inB (-2048) 2047 i&&suitB ⟨op,d,n,m,i⟩)))))=suitB ⟨op,d,n,m,i⟩:=by rw [OI.out,inB_iff.2 (show -2048≤i∧i≤2047 by omega)];rfl
        rw [hs]
        clear hs
        by_cases e7:op=7
        ·have hr:suitB ⟨op,d,n,m,i⟩=decide (m≤3):=by subst e7;rw [← Hm.out (by first | trivial | rfl)];rfl
         rw [hr]
         clear hr
         subst e7
         go_enter Tryz.func49,Tryz.ntmps49
         go_wp2_with fail
         refine (HD.out _).mono ?_
         rintro e w1 ⟨rfl,rfl⟩
         go_wp2_with fail
         refine (HN.out _).mono ?_
         rintro e w2 ⟨rfl,rfl⟩
         go_wp2_with fail
         refine (HM.out _).mono ?_
         rintro e w3 ⟨rfl,rfl⟩
         go_wp2
         go_ret
         exact ⟨rfl,by go_grown⟩
        ·skip
         by_cases e8:op=8
         ·have hr:suitB ⟨op,d,n,m,i⟩=decide (m≤3):=by subst e8;rw [← Hm.out (by first | trivial | rfl)];rfl
          rw [hr]
          clear hr
          subst e8
          go_enter Tryz.func49,Tryz.ntmps49
          go_wp2_with fail
          refine (HD.out _).mono ?_
          rintro e w1 ⟨rfl,rfl⟩
          go_wp2_with fail
          refine (HN.out _).mono ?_
          rintro e w2 ⟨rfl,rfl⟩
          go_wp2_with fail
          refine (HM.out _).mono ?_
          rintro e w3 ⟨rfl,rfl⟩
          go_wp2
          go_ret
          exact ⟨rfl,by go_grown⟩
         ·skip
          by_cases e11:op=11
          ·have hr:suitB ⟨op,d,n,m,i⟩=inB 0 5 i:=by subst e11;rfl
           rw [hr]
           clear hr
           subst e11
           go_enter Tryz.func49,Tryz.ntmps49
           go_wp2_with fail
           refine (HD.out _).mono ?_
           rintro e w1 ⟨rfl,rfl⟩
           go_wp2_with fail
           refine (HN.out _).mono ?_
           rintro e w2 ⟨rfl,rfl⟩
           go_wp2_with fail
           refine (HM.out _).mono ?_
           rintro e w3 ⟨rfl,rfl⟩
           go_wp2_with fail
           refine (HI.out _).mono ?_
           rintro e w4 ⟨rfl,rfl⟩
           go_wp2
           go_ret
           exact ⟨rfl,by go_grown⟩
          ·skip
           by_cases e12:op=12
           ·have hr:suitB ⟨op,d,n,m,i⟩=inB 0 5 i:=by subst e12;rfl
            rw [hr]
            clear hr
            subst e12
            go_enter Tryz.func49,Tryz.ntmps49
            go_wp2_with fail
            refine (HD.out _).mono ?_
            rintro e w1 ⟨rfl,rfl⟩
            go_wp2_with fail
            refine (HN.out _).mono ?_
            rintro e w2 ⟨rfl,rfl⟩
            go_wp2_with fail
            refine (HM.out _).mono ?_
            rintro e w3 ⟨rfl,rfl⟩
            go_wp2_with fail
            refine (HI.out _).mono ?_
            rintro e w4 ⟨rfl,rfl⟩
            go_wp2
            go_ret
            exact ⟨rfl,by go_grown⟩
           ·skip
            by_cases e13:op=13
            ·by_cases h3:3≤i
             ·have hr:suitB ⟨op,d,n,m,i⟩=decide (i≤5):=by subst e13;exact inB_hi h3
              rw [hr]
              clear hr
              subst e13
              go_enter Tryz.func49,Tryz.ntmps49
              go_wp2_with fail
              refine (HD.out _).mono ?_
              rintro e w1 ⟨rfl,rfl⟩
              go_wp2_with fail
              refine (HN.out _).mono ?_
              rintro e w2 ⟨rfl,rfl⟩
              go_wp2_with fail
              refine (HM.out _).mono ?_
              rintro e w3 ⟨rfl,rfl⟩
              go_wp2
              go_ret
              exact ⟨rfl,by go_grown⟩
             ·have hr:suitB ⟨op,d,n,m,i⟩=false:=by subst e13;exact inB_no (show ¬ (3≤i∧i≤5) by omega)
              rw [hr]
              clear hr
              subst e13
              go_enter Tryz.func49,Tryz.ntmps49
              go_wp2_with fail
              refine (HD.out _).mono ?_
              rintro e w1 ⟨rfl,rfl⟩
              go_wp2_with fail
              refine (HN.out _).mono ?_
              rintro e w2 ⟨rfl,rfl⟩
              go_wp2_with fail
              refine (HM.out _).mono ?_
              rintro e w3 ⟨rfl,rfl⟩
              go_wp2
              go_ret
              exact ⟨rfl,by go_grown⟩
            ·have hr:suitB ⟨op,d,n,m,i⟩=true:=by unfold suitB;simp only;rw [if_neg (by omega),if_neg (by omega),if_neg (by omega)]
             rw [hr]
             clear hr
             have q7:(op==7)=false:=by rw [int_beq];exact decide_eq_false e7
             have q8:(op==8)=false:=by rw [int_beq];exact decide_eq_false e8
             have q11:(op==11)=false:=by rw [int_beq];exact decide_eq_false e11
             have q12:(op==12)=false:=by rw [int_beq];exact decide_eq_false e12
             have q13:(op==13)=false:=by rw [int_beq];exact decide_eq_false e13
             go_enter Tryz.func49,Tryz.ntmps49
             go_wp2_with fail
             refine (HD.out _).mono ?_
             rintro e w1 ⟨rfl,rfl⟩
             go_wp2_with fail
             refine (HN.out _).mono ?_
             rintro e w2 ⟨rfl,rfl⟩
             go_wp2_with fail
             refine (HM.out _).mono ?_
             rintro e w3 ⟨rfl,rfl⟩
             go_wp2
             go_ret
             exact ⟨rfl,by go_grown⟩
theorem or32 (x a:Int) (k:Nat) (p c:Int) (hp:p=2 ^ k) (hc:c=x+a) (hx:x % p=0) (h0:0≤a) (h1:a < p) (h2:0≤x) (h3:x < 4294967296) (hp2:p≤4294967296):bits .or .u32 x a=c:=by
 subst hc
 obtain ⟨a,rfl⟩:∃ y:Nat,a=y:=⟨a.toNat,by omega⟩
 obtain ⟨x,rfl⟩:∃ y:Nat,x=y:=⟨x.toNat,by omega⟩
 obtain ⟨q,hq⟩:∃ q:Nat,q=2 ^ k:=⟨_,rfl⟩
 have hpq:p=(q:Int):=by rw [hp,hq];exact (Int.natCast_pow 2 k).symm
 subst hpq
 rw [u32_or_nat _ _ (by omega) (by omega),nat_join k x a (by rw [← hq];omega) (by omega)]
 omega
set_option maxRecDepth 100000 in
theorem riword_any (op d n m i:Int) (h:mayI ⟨op,d,n,m,i⟩=true) (w:World) :
  Calls Tryz.prog 52 #[.agg #[.int .i64 op,.int .i64 d,.int .i64 n,.int .i64 m,.int .i64 i]] w fun e w'=>e=.returned (.int .u32 (wordI ⟨op,d,n,m,i⟩))∧Below w.heap.size w w':=by
 obtain ⟨⟨a0,a1⟩,⟨b0,b1⟩,⟨c0,c1⟩,⟨d0,d1⟩,⟨e0,e1⟩,_⟩:=mayI_iff.1 h
 simp only at a0 a1 b0 b1 c0 c1 d0 d1 e0 e1
 have x0:IntKind.u32.wrap op=op:=by rw [IntKind.wrap_u32'];omega
 have x1:IntKind.u32.wrap d=d:=by rw [IntKind.wrap_u32'];omega
 have x2:IntKind.u32.wrap n=n:=by rw [IntKind.wrap_u32'];omega
 have x3:IntKind.u32.wrap m=m:=by rw [IntKind.wrap_u32'];omega
 have x4:IntKind.u32.wrap i=i % 4294967296:=IntKind.wrap_u32' i
 have y0:IntKind.u32.wrap (op * 134217728)=op * 134217728:=by rw [IntKind.wrap_u32'];omega
 have y1:IntKind.u32.wrap (d * 16777216)=d * 16777216:=by rw [IntKind.wrap_u32'];omega
 have y2:IntKind.u32.wrap (n * 2097152)=n * 2097152:=by rw [IntKind.wrap_u32'];omega
 have y3:IntKind.u32.wrap (m * 262144)=m * 262144:=by rw [IntKind.wrap_u32'];omega
 go_enter Tryz.func52,Tryz.ntmps52
 go_wp2
 go_ret
 refine ⟨ret_int ?_,by go_grown⟩
 have za:bits .and .u32 (i % 4294967296) 4095=i % 4096:=by
  rw [u32_and _ _ (by omega) (by omega) (by decide) (by decide)]
  have:(i % 4294967296).toNat&&& (4095:Int).toNat=(i % 4294967296).toNat % 2 ^ 12:=Nat.and_two_pow_sub_one_eq_mod _ 12
  rw [this]
  omega
 rw [za,or32 (op * 134217728) (d * 16777216) 27 134217728 _ (by decide) rfl (by omega) (by omega) (by omega) (by omega) (by omega) (by decide),
  or32 _ (n * 2097152) 24 16777216 _ (by decide) rfl (by omega) (by omega) (by omega) (by omega) (by omega) (by decide),
  or32 _ (m * 262144) 21 2097152 _ (by decide) rfl (by omega) (by omega) (by omega) (by omega) (by omega) (by decide),
  or32 _ (i % 4096) 18 262144 _ (by decide) rfl (by omega) (by omega) (by omega) (by omega) (by omega) (by decide)]
 rfl
end
section
open Go.ChangeShapes Go.WideShapes Go.ChangeAt Go.RowKit Go.Deep
def mayDo (x:Ins):Bool:=mayI x&&decide (x.op≤6)
def immW (i:Int):BitVec 64:=BitVec.ofInt 64 i
def doI (op i:Int) (n m:BitVec 64):BitVec 64:=
 if op=1 then immW i else if op=2 then n+m+immW i else if op=3 then n - m - immW i else if op=4 then n&&& m else if op=5 then n||| m else n ^^^ m
end
section
open Go.ChangeShapes Go.WideShapes Go.ChangeAt Go.RowKit Go.Deep
end
section
open Go.ChangeShapes Go.WideShapes Go.ChangeAt Go.RowKit Go.Deep
def AluDoC:Prop:=∀ (x:Ins) (a b:BitVec 64) (w:World),
 Calls Tryz.prog 131 #[insV x,.int .u64 (u a),.int .u64 (u b)] w fun e w'=>e=.returned (.tuple #[.int .u64 (if mayDo x=true then u (doI x.op x.i a b) else 0),.int .i64 (if mayDo x=true then 0 else 1)])∧Below w.heap.size w w'
def sumX (X:Nat→BitVec 64):Nat→BitVec 64
 | 0=>0#64
 | k+1=>sumX X k+X k
def AluSumC:Prop:=∀ (f:Option Addr) (l c:Nat) (X:Nat→BitVec 64) (w:World),WordsAt w f l X→l≤1000000→
 Calls Tryz.prog 160 #[.slice f l c] w fun e w'=>e=.returned (.int .u64 (u (sumX X l)))∧Below w.heap.size w w'
structure Q12 where
 x:Ins
 a:BitVec 64
 b:BitVec 64
 f:Option Addr
 l:Nat
 c:Nat
 X:Nat→BitVec 64
structure Ok12 (W:World) (q:Q12):Prop where
 words:WordsAt W q.f q.l q.X
 n1:q.l≤1000000000000000
theorem Ok12.below {W w:World} {q:Q12} (h:Ok12 W q) (hb:Below W.heap.size W w):Ok12 w q:=⟨h.words.below hb,h.n1⟩
section
variable {H:Type} {enc:TypeId×Value→H} {w:World} {base:Nat} {held:Bool}
end
end
end Go.Proofs.YtlgpdbgingjpbaaGreat
