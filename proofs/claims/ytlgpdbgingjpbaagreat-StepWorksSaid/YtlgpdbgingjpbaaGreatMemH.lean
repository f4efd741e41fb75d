/- Contracts: Write of package mem;Put,Write of the reference. -/
import Derived.Test.YtlgpdbgingjpbaaGreatMemE
set_option linter.all false
namespace Go.Proofs.YtlgpdbgingjpbaaGreat
open Go.ChangeShapes Go.WideShapes Go.ChangeAt Go.RowKit Go.Deep
theorem write_ok (f:Option Addr) (l c:Nat) (X:Nat→BitVec 64) (a s:Int) (v:BitVec 64) (w:World) (hX:WordsAt w f l X) (hM:okM l=true) (hE:mayM l a s=0) :
  Calls Tryz.prog 161 #[.agg #[.slice f l c],.int .i64 a,.int .i64 s,.int .u64 (u v)] w fun e w'=>∃ f' c',e=.returned (.tuple #[.agg #[.slice f' l c'],.int .i64 0])∧OwnW w' w.heap.size (.slice f' l c') l (wrV X a s v)∧Below w.heap.size w w':=by
 obtain ⟨l1,l2,l3⟩:=okM_true hM
 obtain ⟨b,o,rfl,hlt,hX'⟩:=hX.pos (by omega)
 clear hX' hlt
 obtain ⟨W,hW⟩:∃ W,W=((w.alloc (.cells #[.slice (some ⟨b,o,none⟩) l c] 24)).alloc (.cells #[.slice none 0 0] 24)).alloc (.cells #[.int .i64 a,.int .i64 s] 214):=⟨_,rfl⟩
 have hb1:Below w.heap.size w W:=by rw [hW];exact bel_alloc (bel_alloc (bel_alloc (Below.refl w.heap.size w) _) _) _
 have hs1:W.heap.size=w.heap.size+3:=by rw [hW];simp
 have L0:Loc W w.heap.size 0 (.slice (some ⟨b,o,none⟩) l c):=by rw [hW];exact ((Loc.new _ _ _ _ 0 _ rfl rfl).alloc _).alloc _
 have L1:Loc W (w.heap.size+1) 0 (.slice none 0 0):=by rw [hW];exact (Loc.new _ _ _ _ 0 _ (by simp) rfl).alloc _
 have L2:Loc W (w.heap.size+1+1) 0 (.int .i64 a):=by rw [hW];exact Loc.new _ _ _ _ 0 _ (by simp) rfl
 have L3:Loc W (w.heap.size+1+1) 1 (.int .i64 s):=by rw [hW];exact Loc.new _ _ _ _ 1 _ (by simp) rfl
 have H:=allows_any (some ⟨b,o,none⟩) l c a s W
 rw [if_pos hM,hE] at H
 have HH:=Lib.hid H
 have HX:=Lib.hid (hX.below hb1)
 clear H hX
 go_enter Tryz.func161,Tryz.ntmps161
 go_wp2_with fail
 rw [← hW]
 refine HH.out.mono ?_
 rintro e w1 ⟨rfl,hb⟩
 have c0:=(L0.below hb).cell
 have L1a:=L1.below hb
 have L2a:=L2.below hb
 have L3a:=L3.below hb
 have HX1:=Lib.hid (HX.out.below hb)
 have hB1:=bel_trans hb1 hb
 have hs2:=hb.size
 clear hW hb L0 L1 L2 L3 HH HX hb1
 go_wp2_with fail
 refine (draft_any _ _ _ _ X _ (by omega) HX1.out).mono ?_
 rintro e w2 ⟨f2,c2,rfl,hO,hb2⟩
 obtain ⟨g2,c2',hv,hbg,hg2,hlc,_⟩:=hO.pos (by omega)
 simp at hv
 obtain ⟨rfl,rfl⟩:=hv
 have hs3:=(bel_trans hB1 hb2).size
 obtain ⟨W3,hW3⟩:∃ W3,W3=w2.alloc (.cells #[.slice (some ⟨g2,0,none⟩) l c2] 275):=⟨_,rfl⟩
 have hsz3:w2.heap.size < W3.heap.size:=by rw [hW3];simp
 have hB3:Below w.heap.size w W3:=by rw [hW3];exact bel_alloc (bel_trans hB1 hb2) _
 have hO3:OwnW W3 w1.heap.size (.slice (some ⟨g2,0,none⟩) l c2) l X:=by rw [hW3];exact hO.below (bel_alloc (Below.refl _ _) _)
 have M1:Loc W3 (w.heap.size+1) 0 (.slice none 0 0):=by rw [hW3];exact (L1a.below hb2).alloc _
 have M2:=(L2a.below hb2).alloc (.cells #[.slice (some ⟨g2,0,none⟩) l c2] 275)
 have M3:=(L3a.below hb2).alloc (.cells #[.slice (some ⟨g2,0,none⟩) l c2] 275)
 have M4:Loc W3 w2.heap.size 0 (.slice (some ⟨g2,0,none⟩) l c2):=by rw [hW3];exact Loc.new w2 _ _ _ 0 _ rfl rfl
 have m2:=M2.cell
 have m3:=M3.cell
 have n2:=(L2a.below hb2).cell
 have n3:=(L3a.below hb2).cell
 have HP:=put_ok w1.heap.size (some ⟨g2,0,none⟩) l c2 X a s v W3 hO3 (by have:=hb2.size;omega) hM hE
 have HHP:=Lib.hid HP
 have HB3:=Lib.hid hB3
 clear hO hb2 hB1 L1a L2a L3a HX1 c0 hO3 hB3 HP M2 M3
 go_wp2_with fail
 rw [← hW3]
 refine HHP.out.mono ?_
 rintro e w4 ⟨rfl,hO4,hB4,hK4⟩
 have hsz4:=hB4.size
 have M5:=M1.same (hK4 g2 rfl (w.heap.size+1) (by omega) (by omega))
 have M6:=M4.same (hK4 g2 rfl w2.heap.size (by omega) (by omega))
 have hz:=(M5.put (.slice (some ⟨g2,0,none⟩) l c2)).cell
 obtain ⟨p5,r5⟩:=M5
 obtain ⟨p6,r6⟩:=M6
 have R1:=Lib.hid ((hO4.mono (show w.heap.size≤_ by omega)).apart (w.heap.size+1) 0 (.slice (some ⟨g2,0,none⟩) l c2) (by omega))
 have R2:=Lib.hid ((HB3.out.trans (hB4.mono (by omega))).setCell (p:=⟨w.heap.size+1,0,none⟩) (by simp only;omega) (.slice (some ⟨g2,0,none⟩) l c2))
 clear hO4 hB4 hK4 M1 M4 m2 m3 n2 n3 hW3 HHP
 go_wp2
 refine bodyPost_ret (v:=.tuple #[.agg #[.slice (some ⟨g2,0,none⟩) l c2],.int .i64 0]) (by simp [results,Tryz.results161,go_sem,hz]) rfl ?_
 exact ⟨_,_,rfl,R1.out,R2.out⟩
theorem rput_any (x:BitVec 64) (a n:Int) (v:BitVec 64) (w:World) (h0:0≤a) (h1:a≤64) (h2:0≤n) :
  Calls Tryz.prog 78 #[.int .u64 (u x),.agg #[.int .i64 a,.int .i64 n,.int .u64 (u v)]] w fun e w'=>e=.returned (.int .u64 (u ((x&&& ~~~(msk n <<< a.toNat))||| (v <<< a.toNat))))∧Below w.heap.size w w':=by
 go_enter Tryz.func78,Tryz.ntmps78
 go_wp2
 go_quiet ((go_at_call 79;exact Calls.quiet_of_same (mask_same _ _ h2)))
 go_wp2
 go_ret
 exact ⟨rfl,below_drewN (bel_alloc (Below.refl _ _) _) _⟩
set_option linter.unusedSimpArgs false in
set_option maxHeartbeats 1600000 in
set_option maxRecDepth 100000 in
theorem rwrite_ok (f:Option Addr) (l c:Nat) (X:Nat→BitVec 64) (a s:Int) (v:BitVec 64) (w:World) (hX:WordsAt w f l X) (hM:okM l=true) (hE:mayM l a s=0) :
  Calls Tryz.prog 51 #[.agg #[.slice f l c],.int .i64 a,.int .i64 s,.int .u64 (u v)] w fun e w'=>∃ f' c',e=.returned (.agg #[.slice f' l c'])∧OwnW w' w.heap.size (.slice f' l c') l (wrV X a s v)∧Below w.heap.size w w':=by
 obtain ⟨hs,a0,a1,a2⟩:=mayE_zero hE
 obtain ⟨l1,l2,l3⟩:=okM_true hM
 have hs1:=okS_true hs
 obtain ⟨W,hW⟩:∃ W,W=(w.alloc (.cells #[.slice f l c] 24)).alloc (.cells #[.slice none 0 0] 24):=⟨_,rfl⟩
 have hb1:Below w.heap.size w W:=by rw [hW];exact bel_alloc (bel_alloc (Below.refl w.heap.size w) _) _
 have hsz1:W.heap.size=w.heap.size+2:=by rw [hW];simp
 have L1:Loc W (w.heap.size+1) 0 (.slice none 0 0):=by rw [hW];exact Loc.new _ _ _ _ 0 _ (by simp) rfl
 have HH:=Lib.hid (copyM_any f l c X W (by omega) (hX.below hb1))
 clear hX
 go_enter Tryz.func51,Tryz.ntmps51
 go_wp2_with fail
 rw [← hW]
 refine HH.out.mono ?_
 rintro e w2 ⟨f2,c2,rfl,hO,hb2⟩
 obtain ⟨g2,c2',hv,hbg,hg2,hlc,hcc⟩:=hO.pos (by omega)
 simp at hv
 obtain ⟨rfl,rfl⟩:=hv
 have hB2:=bel_trans hb1 hb2
 have hs3:=hB2.size
 obtain ⟨W3,hW3⟩:∃ W3,W3=w2.alloc (.cells #[.slice (some ⟨g2,0,none⟩) l c2] 24):=⟨_,rfl⟩
 have hB3:Below w.heap.size w W3:=by rw [hW3];exact bel_alloc hB2 _
 have hO3:OwnW W3 w.heap.size (.slice (some ⟨g2,0,none⟩) l c2) l X:=by rw [hW3];exact (hO.mono (show w.heap.size≤_ by omega)).below (bel_alloc (Below.refl _ _) _)
 have M1:Loc W3 (w.heap.size+1) 0 (.slice none 0 0):=by rw [hW3];exact (L1.below hb2).alloc _
 have M4:Loc W3 w2.heap.size 0 (.slice (some ⟨g2,0,none⟩) l c2):=by rw [hW3];exact Loc.new w2 _ _ _ 0 _ rfl rfl
 have M5:Loc W3 g2 (a / 8).toNat (.int .u64 (u (X (a / 8).toNat))):=by rw [hW3];exact (Loc.mk (hcc _ (by omega)) (hO.frozen _)).alloc _
 have e4:=M4.cell
 have e5:=M5.cell
 have f5:=M5.free
 have HO3:=Lib.hid hO3
 have HB3:=Lib.hid hB3
 have HM1:=Lib.hid M1
 have HM4:=Lib.hid M4
 have HM5:=Lib.hid M5
 have i1:0≤a / 8:=by omega
 have i2:a / 8 < (l:Int):=by omega
 have k1:0≤a % 8 * 8∧a % 8 * 8≤64:=by omega
 have k2:0≤8 * s:=by omega
 have j1:IntKind.i64.wrap (a.tdiv 8)=a / 8:=by rw [Int.tdiv_eq_ediv_of_nonneg a0];exact IntWalk.i64_in _ (by omega)
 have j2:a.tmod 8=a % 8:=Int.tmod_eq_emod_of_nonneg a0
 have j3:IntKind.i64.wrap (a % 8 * 8)=a % 8 * 8:=IntWalk.i64_in _ (by omega)
 have j4:IntKind.i64.wrap (8 * s)=8 * s:=IntWalk.i64_in _ (by omega)
 clear hO hb2 hB2 hb1 L1 HH hW hcc hO3 hB3 M1 M4 M5
 go_wp2_with fail
 rw [← hW3]
 clear hW3
 refine wp_region_late 23 (fun w'=>w'.cell? ⟨w2.heap.size,0,none⟩=some (.slice (some ⟨g2,0,none⟩) l c2)∧w'.cell? ⟨g2,(a / 8).toNat,none⟩=some (.int .u64 (u (X (a / 8).toNat)))) (by kernel_rfl) ?_
 have hS:W3.drew.cell? ⟨w2.heap.size,0,none⟩=some (.slice (some ⟨g2,0,none⟩) l c2)∧W3.drew.cell? ⟨g2,(a / 8).toNat,none⟩=some (.int .u64 (u (X (a / 8).toNat))):=⟨e4,e5⟩
 refine late_take 0 (v:=?_) rfl (by kernel_rfl) (by kernel_rfl) (by kernel_rfl) (by kernel_rfl) (fun _ _ _ h=>h) hS (Or.inl ⟨by rfl,?_⟩) ?_
 rotate_left
 ·intro w' hSw
  obtain ⟨s1,s2⟩:=hSw
  go_simp
  try with_reducible rfl
 simp only [Act.put,List.setIfInBounds_toArray,List.set_cons_zero,List.set_cons_succ]
 refine late_take 1 (v:=?_) rfl (by kernel_rfl) (by kernel_rfl) (by kernel_rfl) (by kernel_rfl) (fun _ _ _ h=>h) hS (Or.inl ⟨by rfl,?_⟩) ?_
 rotate_left
 ·intro w' hSw
  obtain ⟨s1,s2⟩:=hSw
  go_simp
  try with_reducible rfl
 simp only [Act.put,List.setIfInBounds_toArray,List.set_cons_zero,List.set_cons_succ]
 refine late_take 2 (v:=?_) rfl (by kernel_rfl) (by kernel_rfl) (by kernel_rfl) (by kernel_rfl) (fun _ _ _ h=>h) hS (Or.inl ⟨by rfl,?_⟩) ?_
 rotate_left
 ·intro w' hSw
  obtain ⟨s1,s2⟩:=hSw
  go_simp
  try with_reducible rfl
 simp only [Act.put,List.setIfInBounds_toArray,List.set_cons_zero,List.set_cons_succ]
 refine late_take 3 (v:=?_) rfl (by kernel_rfl) (by kernel_rfl) (by kernel_rfl) (by kernel_rfl) (fun _ _ _ h=>h) hS (Or.inl ⟨by rfl,?_⟩) ?_
 rotate_left
 ·intro w' hSw
  obtain ⟨s1,s2⟩:=hSw
  go_simp
  try with_reducible rfl
 simp only [Act.put,List.setIfInBounds_toArray,List.set_cons_zero,List.set_cons_succ]
 refine late_take 4 (v:=?_) rfl (by kernel_rfl) (by kernel_rfl) (by kernel_rfl) (by kernel_rfl) (fun _ _ _ h=>h) hS (Or.inl ⟨by rfl,?_⟩) ?_
 rotate_left
 ·intro w' hSw
  obtain ⟨s1,s2⟩:=hSw
  go_simp
  try with_reducible rfl
 simp only [Act.put,List.setIfInBounds_toArray,List.set_cons_zero,List.set_cons_succ]
 refine late_take 5 (v:=?_) rfl (by kernel_rfl) (by kernel_rfl) (by kernel_rfl) (by kernel_rfl) (fun _ _ _ h=>h) hS (Or.inl ⟨by rfl,?_⟩) ?_
 rotate_left
 ·intro w' hSw
  obtain ⟨s1,s2⟩:=hSw
  go_simp
  try with_reducible rfl
 simp only [Act.put,List.setIfInBounds_toArray,List.set_cons_zero,List.set_cons_succ]
 refine late_take 6 (v:=?_) rfl (by kernel_rfl) (by kernel_rfl) (by kernel_rfl) (by kernel_rfl) (fun _ _ _ h=>h) hS (Or.inl ⟨by rfl,?_⟩) ?_
 rotate_left
 ·intro w' hSw
  obtain ⟨s1,s2⟩:=hSw
  go_simp
  try with_reducible rfl
 simp only [Act.put,List.setIfInBounds_toArray,List.set_cons_zero,List.set_cons_succ]
 refine late_take 7 (v:=?_) rfl (by kernel_rfl) (by kernel_rfl) (by kernel_rfl) (by kernel_rfl) (fun _ _ _ h=>h) hS (Or.inl ⟨by rfl,?_⟩) ?_
 rotate_left
 ·intro w' hSw
  obtain ⟨s1,s2⟩:=hSw
  go_simp
  try with_reducible rfl
 simp only [Act.put,List.setIfInBounds_toArray,List.set_cons_zero,List.set_cons_succ]
 refine late_take 8 (v:=?_) rfl (by kernel_rfl) (by kernel_rfl) (by kernel_rfl) (by kernel_rfl) (fun _ _ _ h=>h) hS (Or.inl ⟨by rfl,?_⟩) ?_
 rotate_left
 ·intro w' hSw
  obtain ⟨s1,s2⟩:=hSw
  go_simp
  try with_reducible rfl
 simp only [Act.put,List.setIfInBounds_toArray,List.set_cons_zero,List.set_cons_succ]
 refine late_take 9 (v:=?_) rfl (by kernel_rfl) (by kernel_rfl) (by kernel_rfl) (by kernel_rfl) (fun _ _ _ h=>h) hS (Or.inl ⟨by rfl,?_⟩) ?_
 rotate_left
 ·intro w' hSw
  obtain ⟨s1,s2⟩:=hSw
  go_simp
  try with_reducible rfl
 simp only [Act.put,List.setIfInBounds_toArray,List.set_cons_zero,List.set_cons_succ]
 refine late_take 10 (v:=?_) rfl (by kernel_rfl) (by kernel_rfl) (by kernel_rfl) (by kernel_rfl) (fun _ _ _ h=>h) hS (Or.inl ⟨by rfl,?_⟩) ?_
 rotate_left
 ·intro w' hSw
  obtain ⟨s1,s2⟩:=hSw
  go_simp
  try with_reducible rfl
 simp only [Act.put,List.setIfInBounds_toArray,List.set_cons_zero,List.set_cons_succ]
 refine late_take 11 (v:=?_) rfl (by kernel_rfl) (by kernel_rfl) (by kernel_rfl) (by kernel_rfl) (fun _ _ _ h=>h) hS (Or.inl ⟨by rfl,?_⟩) ?_
 rotate_left
 ·intro w' hSw
  obtain ⟨s1,s2⟩:=hSw
  go_simp
  try with_reducible rfl
 simp only [Act.put,List.setIfInBounds_toArray,List.set_cons_zero,List.set_cons_succ]
 refine late_take 12 (v:=?_) rfl (by kernel_rfl) (by kernel_rfl) (by kernel_rfl) (by kernel_rfl) (fun _ _ _ h=>h) hS (Or.inl ⟨by rfl,?_⟩) ?_
 rotate_left
 ·intro w' hSw
  obtain ⟨s1,s2⟩:=hSw
  go_simp
  try with_reducible rfl
 simp only [Act.put,List.setIfInBounds_toArray,List.set_cons_zero,List.set_cons_succ]
 refine late_take 13 (v:=?_) rfl (by kernel_rfl) (by kernel_rfl) (by kernel_rfl) (by kernel_rfl) (fun _ _ _ h=>h) hS (Or.inl ⟨by rfl,?_⟩) ?_
 rotate_left
 ·intro w' hSw
  obtain ⟨s1,s2⟩:=hSw
  go_simp
  try with_reducible rfl
 simp only [Act.put,List.setIfInBounds_toArray,List.set_cons_zero,List.set_cons_succ]
 refine late_take 14 (v:=?_) rfl (by kernel_rfl) (by kernel_rfl) (by kernel_rfl) (by kernel_rfl) (fun _ _ _ h=>h) hS (Or.inl ⟨by rfl,?_⟩) ?_
 rotate_left
 ·intro w' hSw
  obtain ⟨s1,s2⟩:=hSw
  go_simp
  try with_reducible rfl
 simp only [Act.put,List.setIfInBounds_toArray,List.set_cons_zero,List.set_cons_succ]
 refine late_take 15 (v:=?_) rfl (by kernel_rfl) (by kernel_rfl) (by kernel_rfl) (by kernel_rfl) (fun _ _ _ h=>h) hS (Or.inl ⟨by rfl,?_⟩) ?_
 rotate_left
 ·intro w' hSw
  obtain ⟨s1,s2⟩:=hSw
  go_simp
  try with_reducible rfl
 simp only [Act.put,List.setIfInBounds_toArray,List.set_cons_zero,List.set_cons_succ]
 refine late_take 16 (v:=?_) rfl (by kernel_rfl) (by kernel_rfl) (by kernel_rfl) (by kernel_rfl) (fun _ _ _ h=>h) hS (Or.inl ⟨by rfl,?_⟩) ?_
 rotate_left
 ·intro w' hSw
  obtain ⟨s1,s2⟩:=hSw
  go_simp
  try with_reducible rfl
 simp only [Act.put,List.setIfInBounds_toArray,List.set_cons_zero,List.set_cons_succ]
 refine late_take 17 (v:=?_) rfl (by kernel_rfl) (by kernel_rfl) (by kernel_rfl) (by kernel_rfl) (fun _ _ _ h=>h) hS (Or.inl ⟨by rfl,?_⟩) ?_
 rotate_left
 ·intro w' hSw
  obtain ⟨s1,s2⟩:=hSw
  go_simp
  try with_reducible rfl
 simp only [Act.put,List.setIfInBounds_toArray,List.set_cons_zero,List.set_cons_succ]
 refine late_one 18 (by kernel_rfl) rfl (fun K hK=>?_)
 go_simp
 refine (mask_same _ _ k2).mono ?_
 rintro e w' ⟨rfl,rfl⟩
 refine hK.out _ _ hS (fun hS'=>?_)
 clear hK K hS'
 try simp only [Act.put,List.setIfInBounds_toArray,List.set_cons_zero,List.set_cons_succ]
 refine late_take 19 (v:=?_) rfl (by kernel_rfl) (by kernel_rfl) (by kernel_rfl) (by kernel_rfl) (fun _ _ _ h=>h) hS (Or.inl ⟨by rfl,?_⟩) ?_
 rotate_left
 ·intro w' hSw
  obtain ⟨s1,s2⟩:=hSw
  go_simp
  try with_reducible rfl
 simp only [Act.put,List.setIfInBounds_toArray,List.set_cons_zero,List.set_cons_succ]
 refine late_take 20 (v:=?_) rfl (by kernel_rfl) (by kernel_rfl) (by kernel_rfl) (by kernel_rfl) (fun _ _ _ h=>h) hS (Or.inl ⟨by rfl,?_⟩) ?_
 rotate_left
 ·intro w' hSw
  obtain ⟨s1,s2⟩:=hSw
  go_simp
  try with_reducible rfl
 simp only [Act.put,List.setIfInBounds_toArray,List.set_cons_zero,List.set_cons_succ]
 refine late_one 21 (by kernel_rfl) rfl (fun K hK=>?_)
 go_simp
 refine (rput_any _ _ _ _ _ k1.1 k1.2 k2).mono ?_
 rintro e w5 ⟨rfl,hb5⟩
 have hb6:Below W3.heap.size W3 w5:=bel_trans (Below.drew (Below.refl _ _)) hb5
 refine hK.out _ _ ⟨keepc hb6 e4,keepc hb6 e5⟩ (fun hS'=>?_)
 clear hK K hS
 have hS:=hS'
 clear hS'
 have HB6:=Lib.hid hb6
 obtain ⟨m5,n5⟩:=HM5.out.below hb6
 clear hb5 hb6
 try simp only [Act.put,List.setIfInBounds_toArray,List.set_cons_zero,List.set_cons_succ]
 refine late_take 22 (v:=?_) rfl (by kernel_rfl) (by kernel_rfl) (by kernel_rfl) (by kernel_rfl) (fun _ _ _ h=>h) hS (Or.inl ⟨by rfl,?_⟩) ?_
 rotate_left
 ·intro w' hSw
  obtain ⟨s1,s2⟩:=hSw
  go_simp
  try with_reducible rfl
 simp only [Act.put,List.setIfInBounds_toArray,List.set_cons_zero,List.set_cons_succ]
 refine late_last (by kernel_rfl) (by kernel_rfl) rfl (fun K hK=>?_)
 go_simp
 refine hK.out _ _ ?_
 have N1:=(HM1.out.below HB6.out).set g2 (a / 8).toNat (.int .u64 (u (pwV (X (a / 8).toNat) (a % 8 * 8).toNat s v))) (by omega)
 have N4:=(HM4.out.below HB6.out).set g2 (a / 8).toNat (.int .u64 (u (pwV (X (a / 8).toNat) (a % 8 * 8).toNat s v))) (by omega)
 have O1:=(HO3.out.below HB6.out).stored (a / 8).toNat (pwV (X (a / 8).toNat) (a % 8 * 8).toNat s v)
 have B1:=(bel_trans HB3.out (HB6.out.mono (Nat.le_refl _))).setCell (p:=⟨g2,(a / 8).toNat,none⟩) (by simp only;omega) (.int .u64 (u (pwV (X (a / 8).toNat) (a % 8 * 8).toNat s v)))
 have hz:=(N1.put (.slice (some ⟨g2,0,none⟩) l c2)).cell
 have R1:=Lib.hid (O1.apart (w.heap.size+1) 0 (.slice (some ⟨g2,0,none⟩) l c2) (by omega))
 have R2:=Lib.hid (B1.setCell (p:=⟨w.heap.size+1,0,none⟩) (by simp only;omega) (.slice (some ⟨g2,0,none⟩) l c2))
 obtain ⟨p1,r1⟩:=N1
 obtain ⟨p4,r4⟩:=N4
 clear hK K hS O1 B1 e4 e5 f5 m5 n5 j1 j2 j3 j4
 unfold pwV at p1 r1 p4 r4 hz R1 R2
 go_wp2
 refine bodyPost_ret (v:=.agg #[.slice (some ⟨g2,0,none⟩) l c2]) (by simp [results,Tryz.results51,go_sem,hz]) rfl ?_
 exact ⟨_,_,rfl,R1.out,R2.out⟩
end Go.Proofs.YtlgpdbgingjpbaaGreat
