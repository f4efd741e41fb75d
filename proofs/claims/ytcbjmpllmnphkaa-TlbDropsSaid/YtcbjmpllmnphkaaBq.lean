/- The laws that look at entries of one kind: TlbExact over a script made anew. -/
import Derived.Test.YtcbjmpllmnphkaaBn
set_option linter.all false
namespace Go.Proofs.Ytcbjmpllmnphkaa
open Go.ChangeShapes Go.WideShapes Go.ChangeAt Go.RowKit Go.Deep

set_option maxRecDepth 100000 in
set_option maxHeartbeats 12800000 in
theorem kind_any (dk : Int) (f g h : Option Addr) (l c m d n kk : Nat) (E : List Ety) (D : List Inv) (A : List Ac9) (w : World) (hl : l = E.length) (hl2 : l ≤ 1000000000000000) (hE : RowsAt KE w f E) (hm : m = D.length) (hm2 : m ≤ 1000000000000000) (hD : RowsAt KI w g D) (hn : n = A.length) (hn2 : n ≤ 1000000000000000) (hA : RowsAt K9 w h A) :
    Calls Try.prog 35 #[.agg #[.slice f l c, .slice g m d, .slice h n kk], .int .i64 dk] w fun r w' => r = .returned (.bool true) ∧ Below w.heap.size w w' := by
  have HH := Lib.hid (fun W => heavy9_any f g h l c m d n kk W hl2 hm2)
  have HN := Lib.hid hn
  have HL := Lib.hid hA
  have HE := Lib.hid hE
  have HD := Lib.hid hD
  have HLE := Lib.hid hl
  have HLD := Lib.hid hm
  clear hn hA hE hD hl hm
  obtain ⟨hv, hvq⟩ : ∃ hv, hv = (decide (200 < (l : Int) + (m : Int)) || decide (500 < (n : Int))) := ⟨_, rfl⟩
  rw [← hvq] at HH
  have HVQ := Lib.hid hvq
  clear hvq
  have htw : w.heap.size ≤ w.heap.size := Nat.le_refl _
  have B0 := Lib.hid (Below.refl w.heap.size w)
  go_enter Try.func35, Try.ntmps35
  go_upto_region 1 with fail
  have P1 := Lib.hid ((BoxAt.newAt (w) #[.slice f l c, .slice g m d, .slice h n kk] 28 (w.heap.size) (by first | omega | (simp; done) | (simp; omega))))
  have B1 := Lib.hid ((bel_alloc B0.out (.cells #[.slice f l c, .slice g m d, .slice h n kk] 28)))
  obtain ⟨g1, hg1⟩ : ∃ g1, g1 = w.heap.size := ⟨_, rfl⟩
  obtain ⟨W1, hW1⟩ : ∃ W1, W1 = (w).alloc (.cells #[.slice f l c, .slice g m d, .slice h n kk] 28) := ⟨_, rfl⟩
  have hs1 : g1 + 1 ≤ W1.heap.size := by rw [hW1, hg1]; simp
  rw [← hW1] at P1 B1 ⊢
  have hb1 : w.heap.size ≤ g1 := by omega
  rw [← hg1] at P1 ⊢
  clear hg1
  clear hW1 B0
  have Pc0 := P1.out.get 0 (.slice f l c) rfl
  have Pc1 := P1.out.get 1 (.slice g m d) rfl
  have Pc2 := P1.out.get 2 (.slice h n kk) rfl
  go_wp2_with fail
  refine (HH.out _).mono ?_
  rintro e w2 ⟨rfl, hb2⟩
  have hz2 := hb2.size
  have P2 := Lib.hid (P1.out.below hb2)
  have B2 := Lib.hid (bel_trans B1.out hb2)
  skip
  have hs2 : g1 + 1 ≤ w2.heap.size := by omega
  clear Pc0 Pc1 Pc2
  clear P1 B1 hs1 hb2 hz2
  cases hv
  · have hn5 : n ≤ 500 := by have h := HVQ.out; simp at h; omega
    have Pc0 := P2.out.get 0 (.slice f l c) rfl
    have Pc1 := P2.out.get 1 (.slice g m d) rfl
    go_upto_region 4 with fail
    clear Pc0 Pc1
    have P3 := Lib.hid ((P2.out.alloc (.cells #[.slice f l c, .slice g m d, .slice none 0 0] 28)))
    have Q3 := Lib.hid ((BoxAt.newAt (w2) #[.slice f l c, .slice g m d, .slice none 0 0] 28 (w2.heap.size) (by first | omega | (simp; done) | (simp; omega))))
    have B3 := Lib.hid ((bel_alloc B2.out (.cells #[.slice f l c, .slice g m d, .slice none 0 0] 28)))
    obtain ⟨g3, hg3⟩ : ∃ g3, g3 = w2.heap.size := ⟨_, rfl⟩
    obtain ⟨W3, hW3⟩ : ∃ W3, W3 = (w2).alloc (.cells #[.slice f l c, .slice g m d, .slice none 0 0] 28) := ⟨_, rfl⟩
    have hs3 : g3 + 1 ≤ W3.heap.size := by rw [hW3, hg3]; simp
    rw [← hW3] at P3 Q3 B3 ⊢
    have hb3 : g1 + 1 ≤ g3 := by omega
    rw [← hg3] at Q3 ⊢
    clear hg3
    clear hW3 P2 B2 hs2
    go_wp2
    go_loopw [6] (fun i wr => ∃ (k : Nat) (M : List Ac9) (qf : Option Addr) (qc : Nat), k ≤ n ∧ i = .int .i64 k ∧ Hid (BoxAt wr (g1) #[.slice f l c, .slice g m d, .slice h n kk] 28) ∧ Hid (BoxAt wr (g3) #[.slice f l c, .slice g m d, .slice qf k qc] 28) ∧ Hid (OwnR K9 wr w.heap.size (.slice qf k qc) M) ∧ Hid (Below w.heap.size w wr)) (fun i _ => n - (intOf i).toNat)
    case atStart => exact ⟨0, [], none, 0, Nat.zero_le _, rfl, P3.out, Q3.out, OwnR.nil _ _, B3.out⟩
    case round =>
      clear B3 P3 Q3
      obtain ⟨k, M, qf, qc, hk, rfl, Pr, Qr, Vr, Br⟩ := hrel
      obtain ⟨mr, hmr⟩ : ∃ mr, mr = wr.heap.size := ⟨_, rfl⟩
      have hmg : g1 + 1 ≤ mr := by rw [hmr]; exact Pr.out.lt
      have hmt : g3 + 1 ≤ mr := by rw [hmr]; exact Qr.out.lt
      have hsr : mr ≤ wr.heap.size := by omega
      have HVB := Lib.hid (show ∀ j, (Value.slice qf k qc).ownBlock = some j → j < mr from by rw [hmr]; exact Vr.out.blt)
      have HVN := Lib.hid (Vr.out.rows.1)
      clear hmr
      by_cases hlt : k < n
      · obtain ⟨x, hx⟩ := rows_some HN.out hlt
        obtain ⟨b, o, rfl, hr0⟩ := HL.out k x hx
        have HRX := Lib.hid (show RowAt w b (o + k * 19) 19 #[.int .i64 x.d, .int .i64 x.n, .int .i64 x.vm, .int .i64 x.sp, .int .i64 x.acc, .int .i64 x.e.k, .int .i64 x.e.vm, .int .i64 x.e.sp, .bool x.e.al, .int .i64 x.e.pg, .int .i64 x.e.lv, .int .i64 x.e.fr, .int .i64 x.e.mi, .bool x.e.t.r, .bool x.e.t.w, .bool x.e.t.x, .bool x.e.t.a, .bool x.e.t.n, .int .i64 x.e.t.s] from hr0)
        have hbk : b < w.heap.size := hr0.lt
        clear hr0 hx
        have i1 : (0 : Int) ≤ (k : Int) := by omega
        have i2 : (k : Int) < (n : Int) := by omega
        by_cases hp : k % 2 = 1
        · have hrm : Int.tmod (k : Int) 2 = 1 := by rw [Int.tmod_eq_emod_of_nonneg (by omega)]; omega
          have Pc2 := Pr.out.get 2 (.slice (some ⟨b, o, none⟩) n kk) rfl
          go_upto_region 8 with (first | ((with_reducible refine atLoad 36 ?_); refine wpList_ldN rfl 36 _ rfl b (o + k * 19) rfl #[.int .i64 x.d, .int .i64 x.n, .int .i64 x.vm, .int .i64 x.sp, .int .i64 x.acc, .int .i64 x.e.k, .int .i64 x.e.vm, .int .i64 x.e.sp, .bool x.e.al, .int .i64 x.e.pg, .int .i64 x.e.lv, .int .i64 x.e.fr, .int .i64 x.e.mi, .bool x.e.t.r, .bool x.e.t.w, .bool x.e.t.x, .bool x.e.t.a, .bool x.e.t.n, .int .i64 x.e.t.s] Try.underlying36 rfl (by kernel_rfl) ((HRX.out.below Br.out).all (Nat.le_of_ble_eq_true rfl)) ?_) | ((with_reducible refine atStore 36 ?_); refine wpList_storeB rfl 36 _ _ rfl (wr.heap.size) #[.int .i64 x.d, .int .i64 x.n, .int .i64 x.vm, .int .i64 x.sp, .int .i64 x.acc, .int .i64 x.e.k, .int .i64 x.e.vm, .int .i64 x.e.sp, .bool x.e.al, .int .i64 x.e.pg, .int .i64 x.e.lv, .int .i64 x.e.fr, .int .i64 x.e.mi, .bool x.e.t.r, .bool x.e.t.w, .bool x.e.t.x, .bool x.e.t.a, .bool x.e.t.n, .int .i64 x.e.t.s] _ 36 rfl rfl (by kernel_rfl) (by rfl) (by simp [Value.oneCell']) (BoxAt.newAt (wr) #[.int .i64 0, .int .i64 0, .int .i64 0, .int .i64 0, .int .i64 0, .int .i64 0, .int .i64 0, .int .i64 0, .bool false, .int .i64 0, .int .i64 0, .int .i64 0, .int .i64 0, .bool false, .bool false, .bool false, .bool false, .bool false, .int .i64 0] 36 (wr.heap.size) (by first | omega | (simp; done) | (simp; omega))) ?_))
          clear Pc2
          have P4 := Lib.hid (((Pr.out.alloc (.cells #[.int .i64 0, .int .i64 0, .int .i64 0, .int .i64 0, .int .i64 0, .int .i64 0, .int .i64 0, .int .i64 0, .bool false, .int .i64 0, .int .i64 0, .int .i64 0, .int .i64 0, .bool false, .bool false, .bool false, .bool false, .bool false, .int .i64 0] 36)).row (cs' := #[.int .i64 x.d, .int .i64 x.n, .int .i64 x.vm, .int .i64 x.sp, .int .i64 x.acc, .int .i64 x.e.k, .int .i64 x.e.vm, .int .i64 x.e.sp, .bool x.e.al, .int .i64 x.e.pg, .int .i64 x.e.lv, .int .i64 x.e.fr, .int .i64 x.e.mi, .bool x.e.t.r, .bool x.e.t.w, .bool x.e.t.x, .bool x.e.t.a, .bool x.e.t.n, .int .i64 x.e.t.s]) (show g1 ≠ wr.heap.size by omega)))
          have Q4 := Lib.hid (((Qr.out.alloc (.cells #[.int .i64 0, .int .i64 0, .int .i64 0, .int .i64 0, .int .i64 0, .int .i64 0, .int .i64 0, .int .i64 0, .bool false, .int .i64 0, .int .i64 0, .int .i64 0, .int .i64 0, .bool false, .bool false, .bool false, .bool false, .bool false, .int .i64 0] 36)).row (cs' := #[.int .i64 x.d, .int .i64 x.n, .int .i64 x.vm, .int .i64 x.sp, .int .i64 x.acc, .int .i64 x.e.k, .int .i64 x.e.vm, .int .i64 x.e.sp, .bool x.e.al, .int .i64 x.e.pg, .int .i64 x.e.lv, .int .i64 x.e.fr, .int .i64 x.e.mi, .bool x.e.t.r, .bool x.e.t.w, .bool x.e.t.x, .bool x.e.t.a, .bool x.e.t.n, .int .i64 x.e.t.s]) (show g3 ≠ wr.heap.size by omega)))
          have A4 := Lib.hid (((BoxAt.newAt (wr) #[.int .i64 0, .int .i64 0, .int .i64 0, .int .i64 0, .int .i64 0, .int .i64 0, .int .i64 0, .int .i64 0, .bool false, .int .i64 0, .int .i64 0, .int .i64 0, .int .i64 0, .bool false, .bool false, .bool false, .bool false, .bool false, .int .i64 0] 36 (wr.heap.size) (by first | omega | (simp; done) | (simp; omega))).put (cs' := #[.int .i64 x.d, .int .i64 x.n, .int .i64 x.vm, .int .i64 x.sp, .int .i64 x.acc, .int .i64 x.e.k, .int .i64 x.e.vm, .int .i64 x.e.sp, .bool x.e.al, .int .i64 x.e.pg, .int .i64 x.e.lv, .int .i64 x.e.fr, .int .i64 x.e.mi, .bool x.e.t.r, .bool x.e.t.w, .bool x.e.t.x, .bool x.e.t.a, .bool x.e.t.n, .int .i64 x.e.t.s])))
          have V4 := Lib.hid (((Vr.out.alloc (.cells #[.int .i64 0, .int .i64 0, .int .i64 0, .int .i64 0, .int .i64 0, .int .i64 0, .int .i64 0, .int .i64 0, .bool false, .int .i64 0, .int .i64 0, .int .i64 0, .int .i64 0, .bool false, .bool false, .bool false, .bool false, .bool false, .int .i64 0] 36)).rowN (g := wr.heap.size) (cs := #[.int .i64 x.d, .int .i64 x.n, .int .i64 x.vm, .int .i64 x.sp, .int .i64 x.acc, .int .i64 x.e.k, .int .i64 x.e.vm, .int .i64 x.e.sp, .bool x.e.al, .int .i64 x.e.pg, .int .i64 x.e.lv, .int .i64 x.e.fr, .int .i64 x.e.mi, .bool x.e.t.r, .bool x.e.t.w, .bool x.e.t.x, .bool x.e.t.a, .bool x.e.t.n, .int .i64 x.e.t.s]) (fun he => absurd (HVB.out _ he) (by first | omega | (simp; omega)))))
          have B4 := Lib.hid ((Below.rowB (g := wr.heap.size) (bel_alloc Br.out (.cells #[.int .i64 0, .int .i64 0, .int .i64 0, .int .i64 0, .int .i64 0, .int .i64 0, .int .i64 0, .int .i64 0, .bool false, .int .i64 0, .int .i64 0, .int .i64 0, .int .i64 0, .bool false, .bool false, .bool false, .bool false, .bool false, .int .i64 0] 36)) (cs := #[.int .i64 x.d, .int .i64 x.n, .int .i64 x.vm, .int .i64 x.sp, .int .i64 x.acc, .int .i64 x.e.k, .int .i64 x.e.vm, .int .i64 x.e.sp, .bool x.e.al, .int .i64 x.e.pg, .int .i64 x.e.lv, .int .i64 x.e.fr, .int .i64 x.e.mi, .bool x.e.t.r, .bool x.e.t.w, .bool x.e.t.x, .bool x.e.t.a, .bool x.e.t.n, .int .i64 x.e.t.s]) (show w.heap.size ≤ wr.heap.size by omega)))
          obtain ⟨g4, hg4⟩ : ∃ g4, g4 = wr.heap.size := ⟨_, rfl⟩
          obtain ⟨W4, hW4⟩ : ∃ W4, W4 = ((wr).alloc (.cells #[.int .i64 0, .int .i64 0, .int .i64 0, .int .i64 0, .int .i64 0, .int .i64 0, .int .i64 0, .int .i64 0, .bool false, .int .i64 0, .int .i64 0, .int .i64 0, .int .i64 0, .bool false, .bool false, .bool false, .bool false, .bool false, .int .i64 0] 36)).setRow (wr.heap.size) #[.int .i64 x.d, .int .i64 x.n, .int .i64 x.vm, .int .i64 x.sp, .int .i64 x.acc, .int .i64 x.e.k, .int .i64 x.e.vm, .int .i64 x.e.sp, .bool x.e.al, .int .i64 x.e.pg, .int .i64 x.e.lv, .int .i64 x.e.fr, .int .i64 x.e.mi, .bool x.e.t.r, .bool x.e.t.w, .bool x.e.t.x, .bool x.e.t.a, .bool x.e.t.n, .int .i64 x.e.t.s] := ⟨_, rfl⟩
          have hs4 : g4 + 1 ≤ W4.heap.size := by rw [hW4, hg4]; simp
          rw [← hW4] at P4 Q4 A4 V4 B4 ⊢
          have hb4 : mr ≤ g4 := by omega
          rw [← hg4] at A4 ⊢
          clear hg4
          clear hW4 Pr Qr Vr Br hsr
          have Ac0 := A4.out.get 0 (.int .i64 x.d) rfl
          have Az0 := A4.out.free 0
          go_upto_region 9 with fail
          clear Ac0 Az0
          have P5 := Lib.hid ((P4.out.other ⟨g4, 0, none⟩ (.int .i64 0) (show g1 ≠ g4 by omega)))
          have Q5 := Lib.hid ((Q4.out.other ⟨g4, 0, none⟩ (.int .i64 0) (show g3 ≠ g4 by omega)))
          have A5 := Lib.hid ((A4.out.set 0 (.int .i64 0) #[.int .i64 0, .int .i64 x.n, .int .i64 x.vm, .int .i64 x.sp, .int .i64 x.acc, .int .i64 x.e.k, .int .i64 x.e.vm, .int .i64 x.e.sp, .bool x.e.al, .int .i64 x.e.pg, .int .i64 x.e.lv, .int .i64 x.e.fr, .int .i64 x.e.mi, .bool x.e.t.r, .bool x.e.t.w, .bool x.e.t.x, .bool x.e.t.a, .bool x.e.t.n, .int .i64 x.e.t.s] rfl))
          have V5 := Lib.hid ((V4.out.otherN ⟨g4, 0, none⟩ (.int .i64 0) (fun he => absurd (HVB.out _ he) (by first | omega | (simp; omega)))))
          have B5 := Lib.hid ((Below.setCell B4.out (p := ⟨g4, 0, none⟩) (show w.heap.size ≤ g4 by omega) (.int .i64 0)))
          obtain ⟨W5, hW5⟩ : ∃ W5, W5 = (W4).setCell ⟨g4, 0, none⟩ (.int .i64 0) := ⟨_, rfl⟩
          have hs5 : g4 + 1 ≤ W5.heap.size := by rw [hW5]; first | (simp [World.setCell]; omega) | (simp [World.setCell, World.setRow]; omega) | exact hs4
          rw [← hW5] at P5 Q5 A5 V5 B5 ⊢
          clear hW5 P4 Q4 A4 V4 B4 hs4
          have Ac0 := A5.out.get 0 (.int .i64 0) rfl
          have Az0 := A5.out.free 0
          go_upto_region 11 with fail
          clear Ac0 Az0
          have P6 := Lib.hid ((P5.out.other ⟨g4, 0, none⟩ (.int .i64 dk) (show g1 ≠ g4 by omega)))
          have Q6 := Lib.hid ((Q5.out.other ⟨g4, 0, none⟩ (.int .i64 dk) (show g3 ≠ g4 by omega)))
          have A6 := Lib.hid ((A5.out.set 0 (.int .i64 dk) #[.int .i64 dk, .int .i64 x.n, .int .i64 x.vm, .int .i64 x.sp, .int .i64 x.acc, .int .i64 x.e.k, .int .i64 x.e.vm, .int .i64 x.e.sp, .bool x.e.al, .int .i64 x.e.pg, .int .i64 x.e.lv, .int .i64 x.e.fr, .int .i64 x.e.mi, .bool x.e.t.r, .bool x.e.t.w, .bool x.e.t.x, .bool x.e.t.a, .bool x.e.t.n, .int .i64 x.e.t.s] rfl))
          have V6 := Lib.hid ((V5.out.otherN ⟨g4, 0, none⟩ (.int .i64 dk) (fun he => absurd (HVB.out _ he) (by first | omega | (simp; omega)))))
          have B6 := Lib.hid ((Below.setCell B5.out (p := ⟨g4, 0, none⟩) (show w.heap.size ≤ g4 by omega) (.int .i64 dk)))
          obtain ⟨W6, hW6⟩ : ∃ W6, W6 = (W5).setCell ⟨g4, 0, none⟩ (.int .i64 dk) := ⟨_, rfl⟩
          have hs6 : g4 + 1 ≤ W6.heap.size := by rw [hW6]; first | (simp [World.setCell]; omega) | (simp [World.setCell, World.setRow]; omega) | exact hs5
          rw [← hW6] at P6 Q6 A6 V6 B6 ⊢
          clear hW6 P5 Q5 A5 V5 B5 hs5
          have Qc2 := Q6.out.get 2 (.slice qf k qc) rfl
          go_upto_region 6 with (first | ((with_reducible refine atLoad 36 ?_); refine wpList_ldN rfl 36 _ rfl g4 (0) rfl #[.int .i64 dk, .int .i64 x.n, .int .i64 x.vm, .int .i64 x.sp, .int .i64 x.acc, .int .i64 x.e.k, .int .i64 x.e.vm, .int .i64 x.e.sp, .bool x.e.al, .int .i64 x.e.pg, .int .i64 x.e.lv, .int .i64 x.e.fr, .int .i64 x.e.mi, .bool x.e.t.r, .bool x.e.t.w, .bool x.e.t.x, .bool x.e.t.a, .bool x.e.t.n, .int .i64 x.e.t.s] Try.underlying36 rfl (by kernel_rfl) (A6.out).all ?_) | (at_builtin; refine wpList_pushRl (K := K9) rfl _ _ rfl w.heap.size k _ M rfl (V6.out.alloc (.cells #[.int .i64 dk, .int .i64 x.n, .int .i64 x.vm, .int .i64 x.sp, .int .i64 x.acc, .int .i64 x.e.k, .int .i64 x.e.vm, .int .i64 x.e.sp, .bool x.e.al, .int .i64 x.e.pg, .int .i64 x.e.lv, .int .i64 x.e.fr, .int .i64 x.e.mi, .bool x.e.t.r, .bool x.e.t.w, .bool x.e.t.x, .bool x.e.t.a, .bool x.e.t.n, .int .i64 x.e.t.s] 36)) HVN.out (W6.heap.size) 1 (⟨dk, x.n, x.vm, x.sp, x.acc, x.e⟩ : Ac9) rfl (fun i _ => ((BoxAt.newAt (W6) #[.int .i64 dk, .int .i64 x.n, .int .i64 x.vm, .int .i64 x.sp, .int .i64 x.acc, .int .i64 x.e.k, .int .i64 x.e.vm, .int .i64 x.e.sp, .bool x.e.al, .int .i64 x.e.pg, .int .i64 x.e.lv, .int .i64 x.e.fr, .int .i64 x.e.mi, .bool x.e.t.r, .bool x.e.t.w, .bool x.e.t.x, .bool x.e.t.a, .bool x.e.t.n, .int .i64 x.e.t.s] 36 (W6.heap.size) (by first | omega | (simp; done) | (simp; omega)))).cell i) (by omega) (by first | omega | (simp; omega)) ?_; intro f7a c7a w7 hO7 hg7; clear A6; clear Qc2; have hz7 := hg7.size; try simp at hz7; have P7 := Lib.hid ((P6.out.alloc (.cells #[.int .i64 dk, .int .i64 x.n, .int .i64 x.vm, .int .i64 x.sp, .int .i64 x.acc, .int .i64 x.e.k, .int .i64 x.e.vm, .int .i64 x.e.sp, .bool x.e.al, .int .i64 x.e.pg, .int .i64 x.e.lv, .int .i64 x.e.fr, .int .i64 x.e.mi, .bool x.e.t.r, .bool x.e.t.w, .bool x.e.t.x, .bool x.e.t.a, .bool x.e.t.n, .int .i64 x.e.t.s] 36)).grown hg7 ((V6.out.alloc (.cells #[.int .i64 dk, .int .i64 x.n, .int .i64 x.vm, .int .i64 x.sp, .int .i64 x.acc, .int .i64 x.e.k, .int .i64 x.e.vm, .int .i64 x.e.sp, .bool x.e.al, .int .i64 x.e.pg, .int .i64 x.e.lv, .int .i64 x.e.fr, .int .i64 x.e.mi, .bool x.e.t.r, .bool x.e.t.w, .bool x.e.t.x, .bool x.e.t.a, .bool x.e.t.n, .int .i64 x.e.t.s] 36)).ne_box (P6.out.alloc (.cells #[.int .i64 dk, .int .i64 x.n, .int .i64 x.vm, .int .i64 x.sp, .int .i64 x.acc, .int .i64 x.e.k, .int .i64 x.e.vm, .int .i64 x.e.sp, .bool x.e.al, .int .i64 x.e.pg, .int .i64 x.e.lv, .int .i64 x.e.fr, .int .i64 x.e.mi, .bool x.e.t.r, .bool x.e.t.w, .bool x.e.t.x, .bool x.e.t.a, .bool x.e.t.n, .int .i64 x.e.t.s] 36)) (by decide))); have Q7 := Lib.hid ((Q6.out.alloc (.cells #[.int .i64 dk, .int .i64 x.n, .int .i64 x.vm, .int .i64 x.sp, .int .i64 x.acc, .int .i64 x.e.k, .int .i64 x.e.vm, .int .i64 x.e.sp, .bool x.e.al, .int .i64 x.e.pg, .int .i64 x.e.lv, .int .i64 x.e.fr, .int .i64 x.e.mi, .bool x.e.t.r, .bool x.e.t.w, .bool x.e.t.x, .bool x.e.t.a, .bool x.e.t.n, .int .i64 x.e.t.s] 36)).grown hg7 ((V6.out.alloc (.cells #[.int .i64 dk, .int .i64 x.n, .int .i64 x.vm, .int .i64 x.sp, .int .i64 x.acc, .int .i64 x.e.k, .int .i64 x.e.vm, .int .i64 x.e.sp, .bool x.e.al, .int .i64 x.e.pg, .int .i64 x.e.lv, .int .i64 x.e.fr, .int .i64 x.e.mi, .bool x.e.t.r, .bool x.e.t.w, .bool x.e.t.x, .bool x.e.t.a, .bool x.e.t.n, .int .i64 x.e.t.s] 36)).ne_box (Q6.out.alloc (.cells #[.int .i64 dk, .int .i64 x.n, .int .i64 x.vm, .int .i64 x.sp, .int .i64 x.acc, .int .i64 x.e.k, .int .i64 x.e.vm, .int .i64 x.e.sp, .bool x.e.al, .int .i64 x.e.pg, .int .i64 x.e.lv, .int .i64 x.e.fr, .int .i64 x.e.mi, .bool x.e.t.r, .bool x.e.t.w, .bool x.e.t.x, .bool x.e.t.a, .bool x.e.t.n, .int .i64 x.e.t.s] 36)) (by decide))); have V7 := Lib.hid (hO7); have B7 := Lib.hid ((bel_alloc B6.out (.cells #[.int .i64 dk, .int .i64 x.n, .int .i64 x.vm, .int .i64 x.sp, .int .i64 x.acc, .int .i64 x.e.k, .int .i64 x.e.vm, .int .i64 x.e.sp, .bool x.e.al, .int .i64 x.e.pg, .int .i64 x.e.lv, .int .i64 x.e.fr, .int .i64 x.e.mi, .bool x.e.t.r, .bool x.e.t.w, .bool x.e.t.x, .bool x.e.t.a, .bool x.e.t.n, .int .i64 x.e.t.s] 36)).grown hg7 (show w.heap.size ≤ _ by first | omega | (simp; omega)) (fun k hk => Nat.le_trans (show w.heap.size ≤ w.heap.size by omega) ((V6.out.alloc (.cells #[.int .i64 dk, .int .i64 x.n, .int .i64 x.vm, .int .i64 x.sp, .int .i64 x.acc, .int .i64 x.e.k, .int .i64 x.e.vm, .int .i64 x.e.sp, .bool x.e.al, .int .i64 x.e.pg, .int .i64 x.e.lv, .int .i64 x.e.fr, .int .i64 x.e.mi, .bool x.e.t.r, .bool x.e.t.w, .bool x.e.t.x, .bool x.e.t.a, .bool x.e.t.n, .int .i64 x.e.t.s] 36)).blk k hk))); have hs7 : g4 + 1 ≤ w7.heap.size := (by omega); clear P6 Q6 V6 B6 hg7 hO7 hz7 hs6; have Qc2 := Q7.out.get 2 (.slice qf k qc) rfl; have Qz2 := Q7.out.free 2))
          clear Qc2 Qz2
          have P8 := Lib.hid ((P7.out.other ⟨g3, 2, none⟩ (.slice f7a (k + 1) c7a) (show g1 ≠ g3 by omega)))
          have Q8 := Lib.hid ((Q7.out.set 2 (.slice f7a (k + 1) c7a) #[.slice f l c, .slice g m d, .slice f7a (k + 1) c7a] rfl))
          have V8 := Lib.hid ((V7.out.otherN ⟨g3, 2, none⟩ (.slice f7a (k + 1) c7a) (V7.out.ne_box Q7.out (by decide))))
          have B8 := Lib.hid ((Below.setCell B7.out (p := ⟨g3, 2, none⟩) (show w.heap.size ≤ g3 by omega) (.slice f7a (k + 1) c7a)))
          obtain ⟨W8, hW8⟩ : ∃ W8, W8 = (w7).setCell ⟨g3, 2, none⟩ (.slice f7a (k + 1) c7a) := ⟨_, rfl⟩
          have hs8 : g4 + 1 ≤ W8.heap.size := by rw [hW8]; first | (simp [World.setCell]; omega) | (simp [World.setCell, World.setRow]; omega) | exact hs7
          rw [← hW8] at P8 Q8 V8 B8 ⊢
          clear hW8 P7 Q7 V7 B7 hs7
          go_wp2
          go_roundw
          case rel => exact ⟨k + 1, (M ++ [(⟨dk, x.n, x.vm, x.sp, x.acc, x.e⟩ : Ac9)]), f7a, c7a, by omega, by go_num, P8.out, Q8.out, V8.out, B8.out⟩
          case measure => simp [intOf]; omega
        · have hrm : Int.tmod (k : Int) 2 = 0 := by rw [Int.tmod_eq_emod_of_nonneg (by omega)]; omega
          have Pc2 := Pr.out.get 2 (.slice (some ⟨b, o, none⟩) n kk) rfl
          go_upto_region 8 with (first | ((with_reducible refine atLoad 36 ?_); refine wpList_ldN rfl 36 _ rfl b (o + k * 19) rfl #[.int .i64 x.d, .int .i64 x.n, .int .i64 x.vm, .int .i64 x.sp, .int .i64 x.acc, .int .i64 x.e.k, .int .i64 x.e.vm, .int .i64 x.e.sp, .bool x.e.al, .int .i64 x.e.pg, .int .i64 x.e.lv, .int .i64 x.e.fr, .int .i64 x.e.mi, .bool x.e.t.r, .bool x.e.t.w, .bool x.e.t.x, .bool x.e.t.a, .bool x.e.t.n, .int .i64 x.e.t.s] Try.underlying36 rfl (by kernel_rfl) ((HRX.out.below Br.out).all (Nat.le_of_ble_eq_true rfl)) ?_) | ((with_reducible refine atStore 36 ?_); refine wpList_storeB rfl 36 _ _ rfl (wr.heap.size) #[.int .i64 x.d, .int .i64 x.n, .int .i64 x.vm, .int .i64 x.sp, .int .i64 x.acc, .int .i64 x.e.k, .int .i64 x.e.vm, .int .i64 x.e.sp, .bool x.e.al, .int .i64 x.e.pg, .int .i64 x.e.lv, .int .i64 x.e.fr, .int .i64 x.e.mi, .bool x.e.t.r, .bool x.e.t.w, .bool x.e.t.x, .bool x.e.t.a, .bool x.e.t.n, .int .i64 x.e.t.s] _ 36 rfl rfl (by kernel_rfl) (by rfl) (by simp [Value.oneCell']) (BoxAt.newAt (wr) #[.int .i64 0, .int .i64 0, .int .i64 0, .int .i64 0, .int .i64 0, .int .i64 0, .int .i64 0, .int .i64 0, .bool false, .int .i64 0, .int .i64 0, .int .i64 0, .int .i64 0, .bool false, .bool false, .bool false, .bool false, .bool false, .int .i64 0] 36 (wr.heap.size) (by first | omega | (simp; done) | (simp; omega))) ?_))
          clear Pc2
          have P4 := Lib.hid (((Pr.out.alloc (.cells #[.int .i64 0, .int .i64 0, .int .i64 0, .int .i64 0, .int .i64 0, .int .i64 0, .int .i64 0, .int .i64 0, .bool false, .int .i64 0, .int .i64 0, .int .i64 0, .int .i64 0, .bool false, .bool false, .bool false, .bool false, .bool false, .int .i64 0] 36)).row (cs' := #[.int .i64 x.d, .int .i64 x.n, .int .i64 x.vm, .int .i64 x.sp, .int .i64 x.acc, .int .i64 x.e.k, .int .i64 x.e.vm, .int .i64 x.e.sp, .bool x.e.al, .int .i64 x.e.pg, .int .i64 x.e.lv, .int .i64 x.e.fr, .int .i64 x.e.mi, .bool x.e.t.r, .bool x.e.t.w, .bool x.e.t.x, .bool x.e.t.a, .bool x.e.t.n, .int .i64 x.e.t.s]) (show g1 ≠ wr.heap.size by omega)))
          have Q4 := Lib.hid (((Qr.out.alloc (.cells #[.int .i64 0, .int .i64 0, .int .i64 0, .int .i64 0, .int .i64 0, .int .i64 0, .int .i64 0, .int .i64 0, .bool false, .int .i64 0, .int .i64 0, .int .i64 0, .int .i64 0, .bool false, .bool false, .bool false, .bool false, .bool false, .int .i64 0] 36)).row (cs' := #[.int .i64 x.d, .int .i64 x.n, .int .i64 x.vm, .int .i64 x.sp, .int .i64 x.acc, .int .i64 x.e.k, .int .i64 x.e.vm, .int .i64 x.e.sp, .bool x.e.al, .int .i64 x.e.pg, .int .i64 x.e.lv, .int .i64 x.e.fr, .int .i64 x.e.mi, .bool x.e.t.r, .bool x.e.t.w, .bool x.e.t.x, .bool x.e.t.a, .bool x.e.t.n, .int .i64 x.e.t.s]) (show g3 ≠ wr.heap.size by omega)))
          have A4 := Lib.hid (((BoxAt.newAt (wr) #[.int .i64 0, .int .i64 0, .int .i64 0, .int .i64 0, .int .i64 0, .int .i64 0, .int .i64 0, .int .i64 0, .bool false, .int .i64 0, .int .i64 0, .int .i64 0, .int .i64 0, .bool false, .bool false, .bool false, .bool false, .bool false, .int .i64 0] 36 (wr.heap.size) (by first | omega | (simp; done) | (simp; omega))).put (cs' := #[.int .i64 x.d, .int .i64 x.n, .int .i64 x.vm, .int .i64 x.sp, .int .i64 x.acc, .int .i64 x.e.k, .int .i64 x.e.vm, .int .i64 x.e.sp, .bool x.e.al, .int .i64 x.e.pg, .int .i64 x.e.lv, .int .i64 x.e.fr, .int .i64 x.e.mi, .bool x.e.t.r, .bool x.e.t.w, .bool x.e.t.x, .bool x.e.t.a, .bool x.e.t.n, .int .i64 x.e.t.s])))
          have V4 := Lib.hid (((Vr.out.alloc (.cells #[.int .i64 0, .int .i64 0, .int .i64 0, .int .i64 0, .int .i64 0, .int .i64 0, .int .i64 0, .int .i64 0, .bool false, .int .i64 0, .int .i64 0, .int .i64 0, .int .i64 0, .bool false, .bool false, .bool false, .bool false, .bool false, .int .i64 0] 36)).rowN (g := wr.heap.size) (cs := #[.int .i64 x.d, .int .i64 x.n, .int .i64 x.vm, .int .i64 x.sp, .int .i64 x.acc, .int .i64 x.e.k, .int .i64 x.e.vm, .int .i64 x.e.sp, .bool x.e.al, .int .i64 x.e.pg, .int .i64 x.e.lv, .int .i64 x.e.fr, .int .i64 x.e.mi, .bool x.e.t.r, .bool x.e.t.w, .bool x.e.t.x, .bool x.e.t.a, .bool x.e.t.n, .int .i64 x.e.t.s]) (fun he => absurd (HVB.out _ he) (by first | omega | (simp; omega)))))
          have B4 := Lib.hid ((Below.rowB (g := wr.heap.size) (bel_alloc Br.out (.cells #[.int .i64 0, .int .i64 0, .int .i64 0, .int .i64 0, .int .i64 0, .int .i64 0, .int .i64 0, .int .i64 0, .bool false, .int .i64 0, .int .i64 0, .int .i64 0, .int .i64 0, .bool false, .bool false, .bool false, .bool false, .bool false, .int .i64 0] 36)) (cs := #[.int .i64 x.d, .int .i64 x.n, .int .i64 x.vm, .int .i64 x.sp, .int .i64 x.acc, .int .i64 x.e.k, .int .i64 x.e.vm, .int .i64 x.e.sp, .bool x.e.al, .int .i64 x.e.pg, .int .i64 x.e.lv, .int .i64 x.e.fr, .int .i64 x.e.mi, .bool x.e.t.r, .bool x.e.t.w, .bool x.e.t.x, .bool x.e.t.a, .bool x.e.t.n, .int .i64 x.e.t.s]) (show w.heap.size ≤ wr.heap.size by omega)))
          obtain ⟨g4, hg4⟩ : ∃ g4, g4 = wr.heap.size := ⟨_, rfl⟩
          obtain ⟨W4, hW4⟩ : ∃ W4, W4 = ((wr).alloc (.cells #[.int .i64 0, .int .i64 0, .int .i64 0, .int .i64 0, .int .i64 0, .int .i64 0, .int .i64 0, .int .i64 0, .bool false, .int .i64 0, .int .i64 0, .int .i64 0, .int .i64 0, .bool false, .bool false, .bool false, .bool false, .bool false, .int .i64 0] 36)).setRow (wr.heap.size) #[.int .i64 x.d, .int .i64 x.n, .int .i64 x.vm, .int .i64 x.sp, .int .i64 x.acc, .int .i64 x.e.k, .int .i64 x.e.vm, .int .i64 x.e.sp, .bool x.e.al, .int .i64 x.e.pg, .int .i64 x.e.lv, .int .i64 x.e.fr, .int .i64 x.e.mi, .bool x.e.t.r, .bool x.e.t.w, .bool x.e.t.x, .bool x.e.t.a, .bool x.e.t.n, .int .i64 x.e.t.s] := ⟨_, rfl⟩
          have hs4 : g4 + 1 ≤ W4.heap.size := by rw [hW4, hg4]; simp
          rw [← hW4] at P4 Q4 A4 V4 B4 ⊢
          have hb4 : mr ≤ g4 := by omega
          rw [← hg4] at A4 ⊢
          clear hg4
          clear hW4 Pr Qr Vr Br hsr
          have Ac0 := A4.out.get 0 (.int .i64 x.d) rfl
          have Az0 := A4.out.free 0
          go_upto_region 9 with fail
          clear Ac0 Az0
          have P5 := Lib.hid ((P4.out.other ⟨g4, 0, none⟩ (.int .i64 0) (show g1 ≠ g4 by omega)))
          have Q5 := Lib.hid ((Q4.out.other ⟨g4, 0, none⟩ (.int .i64 0) (show g3 ≠ g4 by omega)))
          have A5 := Lib.hid ((A4.out.set 0 (.int .i64 0) #[.int .i64 0, .int .i64 x.n, .int .i64 x.vm, .int .i64 x.sp, .int .i64 x.acc, .int .i64 x.e.k, .int .i64 x.e.vm, .int .i64 x.e.sp, .bool x.e.al, .int .i64 x.e.pg, .int .i64 x.e.lv, .int .i64 x.e.fr, .int .i64 x.e.mi, .bool x.e.t.r, .bool x.e.t.w, .bool x.e.t.x, .bool x.e.t.a, .bool x.e.t.n, .int .i64 x.e.t.s] rfl))
          have V5 := Lib.hid ((V4.out.otherN ⟨g4, 0, none⟩ (.int .i64 0) (fun he => absurd (HVB.out _ he) (by first | omega | (simp; omega)))))
          have B5 := Lib.hid ((Below.setCell B4.out (p := ⟨g4, 0, none⟩) (show w.heap.size ≤ g4 by omega) (.int .i64 0)))
          obtain ⟨W5, hW5⟩ : ∃ W5, W5 = (W4).setCell ⟨g4, 0, none⟩ (.int .i64 0) := ⟨_, rfl⟩
          have hs5 : g4 + 1 ≤ W5.heap.size := by rw [hW5]; first | (simp [World.setCell]; omega) | (simp [World.setCell, World.setRow]; omega) | exact hs4
          rw [← hW5] at P5 Q5 A5 V5 B5 ⊢
          clear hW5 P4 Q4 A4 V4 B4 hs4
          have Qc2 := Q5.out.get 2 (.slice qf k qc) rfl
          go_upto_region 6 with (first | ((with_reducible refine atLoad 36 ?_); refine wpList_ldN rfl 36 _ rfl g4 (0) rfl #[.int .i64 0, .int .i64 x.n, .int .i64 x.vm, .int .i64 x.sp, .int .i64 x.acc, .int .i64 x.e.k, .int .i64 x.e.vm, .int .i64 x.e.sp, .bool x.e.al, .int .i64 x.e.pg, .int .i64 x.e.lv, .int .i64 x.e.fr, .int .i64 x.e.mi, .bool x.e.t.r, .bool x.e.t.w, .bool x.e.t.x, .bool x.e.t.a, .bool x.e.t.n, .int .i64 x.e.t.s] Try.underlying36 rfl (by kernel_rfl) (A5.out).all ?_) | (at_builtin; refine wpList_pushRl (K := K9) rfl _ _ rfl w.heap.size k _ M rfl (V5.out.alloc (.cells #[.int .i64 0, .int .i64 x.n, .int .i64 x.vm, .int .i64 x.sp, .int .i64 x.acc, .int .i64 x.e.k, .int .i64 x.e.vm, .int .i64 x.e.sp, .bool x.e.al, .int .i64 x.e.pg, .int .i64 x.e.lv, .int .i64 x.e.fr, .int .i64 x.e.mi, .bool x.e.t.r, .bool x.e.t.w, .bool x.e.t.x, .bool x.e.t.a, .bool x.e.t.n, .int .i64 x.e.t.s] 36)) HVN.out (W5.heap.size) 1 (⟨0, x.n, x.vm, x.sp, x.acc, x.e⟩ : Ac9) rfl (fun i _ => ((BoxAt.newAt (W5) #[.int .i64 0, .int .i64 x.n, .int .i64 x.vm, .int .i64 x.sp, .int .i64 x.acc, .int .i64 x.e.k, .int .i64 x.e.vm, .int .i64 x.e.sp, .bool x.e.al, .int .i64 x.e.pg, .int .i64 x.e.lv, .int .i64 x.e.fr, .int .i64 x.e.mi, .bool x.e.t.r, .bool x.e.t.w, .bool x.e.t.x, .bool x.e.t.a, .bool x.e.t.n, .int .i64 x.e.t.s] 36 (W5.heap.size) (by first | omega | (simp; done) | (simp; omega)))).cell i) (by omega) (by first | omega | (simp; omega)) ?_; intro f6a c6a w6 hO6 hg6; clear A5; clear Qc2; have hz6 := hg6.size; try simp at hz6; have P6 := Lib.hid ((P5.out.alloc (.cells #[.int .i64 0, .int .i64 x.n, .int .i64 x.vm, .int .i64 x.sp, .int .i64 x.acc, .int .i64 x.e.k, .int .i64 x.e.vm, .int .i64 x.e.sp, .bool x.e.al, .int .i64 x.e.pg, .int .i64 x.e.lv, .int .i64 x.e.fr, .int .i64 x.e.mi, .bool x.e.t.r, .bool x.e.t.w, .bool x.e.t.x, .bool x.e.t.a, .bool x.e.t.n, .int .i64 x.e.t.s] 36)).grown hg6 ((V5.out.alloc (.cells #[.int .i64 0, .int .i64 x.n, .int .i64 x.vm, .int .i64 x.sp, .int .i64 x.acc, .int .i64 x.e.k, .int .i64 x.e.vm, .int .i64 x.e.sp, .bool x.e.al, .int .i64 x.e.pg, .int .i64 x.e.lv, .int .i64 x.e.fr, .int .i64 x.e.mi, .bool x.e.t.r, .bool x.e.t.w, .bool x.e.t.x, .bool x.e.t.a, .bool x.e.t.n, .int .i64 x.e.t.s] 36)).ne_box (P5.out.alloc (.cells #[.int .i64 0, .int .i64 x.n, .int .i64 x.vm, .int .i64 x.sp, .int .i64 x.acc, .int .i64 x.e.k, .int .i64 x.e.vm, .int .i64 x.e.sp, .bool x.e.al, .int .i64 x.e.pg, .int .i64 x.e.lv, .int .i64 x.e.fr, .int .i64 x.e.mi, .bool x.e.t.r, .bool x.e.t.w, .bool x.e.t.x, .bool x.e.t.a, .bool x.e.t.n, .int .i64 x.e.t.s] 36)) (by decide))); have Q6 := Lib.hid ((Q5.out.alloc (.cells #[.int .i64 0, .int .i64 x.n, .int .i64 x.vm, .int .i64 x.sp, .int .i64 x.acc, .int .i64 x.e.k, .int .i64 x.e.vm, .int .i64 x.e.sp, .bool x.e.al, .int .i64 x.e.pg, .int .i64 x.e.lv, .int .i64 x.e.fr, .int .i64 x.e.mi, .bool x.e.t.r, .bool x.e.t.w, .bool x.e.t.x, .bool x.e.t.a, .bool x.e.t.n, .int .i64 x.e.t.s] 36)).grown hg6 ((V5.out.alloc (.cells #[.int .i64 0, .int .i64 x.n, .int .i64 x.vm, .int .i64 x.sp, .int .i64 x.acc, .int .i64 x.e.k, .int .i64 x.e.vm, .int .i64 x.e.sp, .bool x.e.al, .int .i64 x.e.pg, .int .i64 x.e.lv, .int .i64 x.e.fr, .int .i64 x.e.mi, .bool x.e.t.r, .bool x.e.t.w, .bool x.e.t.x, .bool x.e.t.a, .bool x.e.t.n, .int .i64 x.e.t.s] 36)).ne_box (Q5.out.alloc (.cells #[.int .i64 0, .int .i64 x.n, .int .i64 x.vm, .int .i64 x.sp, .int .i64 x.acc, .int .i64 x.e.k, .int .i64 x.e.vm, .int .i64 x.e.sp, .bool x.e.al, .int .i64 x.e.pg, .int .i64 x.e.lv, .int .i64 x.e.fr, .int .i64 x.e.mi, .bool x.e.t.r, .bool x.e.t.w, .bool x.e.t.x, .bool x.e.t.a, .bool x.e.t.n, .int .i64 x.e.t.s] 36)) (by decide))); have V6 := Lib.hid (hO6); have B6 := Lib.hid ((bel_alloc B5.out (.cells #[.int .i64 0, .int .i64 x.n, .int .i64 x.vm, .int .i64 x.sp, .int .i64 x.acc, .int .i64 x.e.k, .int .i64 x.e.vm, .int .i64 x.e.sp, .bool x.e.al, .int .i64 x.e.pg, .int .i64 x.e.lv, .int .i64 x.e.fr, .int .i64 x.e.mi, .bool x.e.t.r, .bool x.e.t.w, .bool x.e.t.x, .bool x.e.t.a, .bool x.e.t.n, .int .i64 x.e.t.s] 36)).grown hg6 (show w.heap.size ≤ _ by first | omega | (simp; omega)) (fun k hk => Nat.le_trans (show w.heap.size ≤ w.heap.size by omega) ((V5.out.alloc (.cells #[.int .i64 0, .int .i64 x.n, .int .i64 x.vm, .int .i64 x.sp, .int .i64 x.acc, .int .i64 x.e.k, .int .i64 x.e.vm, .int .i64 x.e.sp, .bool x.e.al, .int .i64 x.e.pg, .int .i64 x.e.lv, .int .i64 x.e.fr, .int .i64 x.e.mi, .bool x.e.t.r, .bool x.e.t.w, .bool x.e.t.x, .bool x.e.t.a, .bool x.e.t.n, .int .i64 x.e.t.s] 36)).blk k hk))); have hs6 : g4 + 1 ≤ w6.heap.size := (by omega); clear P5 Q5 V5 B5 hg6 hO6 hz6 hs5; have Qc2 := Q6.out.get 2 (.slice qf k qc) rfl; have Qz2 := Q6.out.free 2))
          clear Qc2 Qz2
          have P7 := Lib.hid ((P6.out.other ⟨g3, 2, none⟩ (.slice f6a (k + 1) c6a) (show g1 ≠ g3 by omega)))
          have Q7 := Lib.hid ((Q6.out.set 2 (.slice f6a (k + 1) c6a) #[.slice f l c, .slice g m d, .slice f6a (k + 1) c6a] rfl))
          have V7 := Lib.hid ((V6.out.otherN ⟨g3, 2, none⟩ (.slice f6a (k + 1) c6a) (V6.out.ne_box Q6.out (by decide))))
          have B7 := Lib.hid ((Below.setCell B6.out (p := ⟨g3, 2, none⟩) (show w.heap.size ≤ g3 by omega) (.slice f6a (k + 1) c6a)))
          obtain ⟨W7, hW7⟩ : ∃ W7, W7 = (w6).setCell ⟨g3, 2, none⟩ (.slice f6a (k + 1) c6a) := ⟨_, rfl⟩
          have hs7 : g4 + 1 ≤ W7.heap.size := by rw [hW7]; first | (simp [World.setCell]; omega) | (simp [World.setCell, World.setRow]; omega) | exact hs6
          rw [← hW7] at P7 Q7 V7 B7 ⊢
          clear hW7 P6 Q6 V6 B6 hs6
          go_wp2
          go_roundw
          case rel => exact ⟨k + 1, (M ++ [(⟨0, x.n, x.vm, x.sp, x.acc, x.e⟩ : Ac9)]), f6a, c6a, by omega, by go_num, P7.out, Q7.out, V7.out, B7.out⟩
          case measure => simp [intOf]; omega
      · have Pc2 := Pr.out.get 2 (.slice h n kk) rfl
        have Qc0 := Qr.out.get 0 (.slice f l c) rfl
        have Qc1 := Qr.out.get 1 (.slice g m d) rfl
        have Qc2 := Qr.out.get 2 (.slice qf k qc) rfl
        go_wp2_with fail
        refine (exact9_walk f g qf l c m d k qc E D M _ HLE.out (by omega) (HE.out.below Br.out) HLD.out (by omega) (HD.out.below Br.out) HVN.out (by omega) (Vr.out).rows.2).mono ?_
        rintro e w4 ⟨rfl, hb4⟩
        have hz4 := hb4.size
        have P4 := Lib.hid (Pr.out.below hb4)
        have Q4 := Lib.hid (Qr.out.below hb4)
        have V4 := Lib.hid (Vr.out.below hb4)
        have B4 := Lib.hid (bel_trans Br.out hb4)
        skip
        have hs4 : mr ≤ w4.heap.size := by omega
        clear Pc2 Qc0 Qc1 Qc2
        clear Pr Qr Vr Br hsr hb4 hz4
        go_wp2
        go_ret
        exact ⟨rfl, B4.out⟩
  go_wp2
  go_ret
  exact ⟨rfl, B2.out⟩
set_option maxRecDepth 100000 in
set_option maxHeartbeats 12800000 in
theorem tlbWholes_walk (f g h : Option Addr) (l c m d n kk : Nat) (E : List Ety) (D : List Inv) (A : List Ac9) (w : World) (hl : l = E.length) (hl2 : l ≤ 1000000000000000) (hE : RowsAt KE w f E) (hm : m = D.length) (hm2 : m ≤ 1000000000000000) (hD : RowsAt KI w g D) (hn : n = A.length) (hn2 : n ≤ 1000000000000000) (hA : RowsAt K9 w h A) :
    Calls Try.prog 5 #[.agg #[.slice f l c, .slice g m d, .slice h n kk]] w fun r w' => r = .returned (.bool true) ∧ Below w.heap.size w w' := by
  have HN := Lib.hid hn
  have HL := Lib.hid hA
  have HE := Lib.hid hE
  have HD := Lib.hid hD
  have HLE := Lib.hid hl
  have HLD := Lib.hid hm
  clear hn hA hE hD hl hm
  have htw : w.heap.size ≤ w.heap.size := Nat.le_refl _
  have B0 := Lib.hid (Below.refl w.heap.size w)
  go_enter Try.func5, Try.ntmps5
  go_upto_region 1 with fail
  have P1 := Lib.hid ((BoxAt.newAt (w) #[.slice f l c, .slice g m d, .slice h n kk] 28 (w.heap.size) (by first | omega | (simp; done) | (simp; omega))))
  have B1 := Lib.hid ((bel_alloc B0.out (.cells #[.slice f l c, .slice g m d, .slice h n kk] 28)))
  obtain ⟨g1, hg1⟩ : ∃ g1, g1 = w.heap.size := ⟨_, rfl⟩
  obtain ⟨W1, hW1⟩ : ∃ W1, W1 = (w).alloc (.cells #[.slice f l c, .slice g m d, .slice h n kk] 28) := ⟨_, rfl⟩
  have hs1 : g1 + 1 ≤ W1.heap.size := by rw [hW1, hg1]; simp
  rw [← hW1] at P1 B1 ⊢
  have hb1 : w.heap.size ≤ g1 := by omega
  rw [← hg1] at P1 ⊢
  clear hg1
  clear hW1 B0
  have Pc0 := P1.out.get 0 (.slice f l c) rfl
  have Pc1 := P1.out.get 1 (.slice g m d) rfl
  have Pc2 := P1.out.get 2 (.slice h n kk) rfl
  go_wp2_with fail
  refine (kind_any 4 f g h l c m d n kk E D A _ HLE.out hl2 (HE.out.below B1.out) HLD.out hm2 (HD.out.below B1.out) HN.out hn2 (HL.out.below B1.out)).mono ?_
  rintro e w2 ⟨rfl, hb2⟩
  have hz2 := hb2.size
  have P2 := Lib.hid (P1.out.below hb2)
  have B2 := Lib.hid (bel_trans B1.out hb2)
  skip
  have hs2 : g1 + 1 ≤ w2.heap.size := by omega
  clear Pc0 Pc1 Pc2
  clear P1 B1 hs1 hb2 hz2
  go_wp2
  go_ret
  exact ⟨rfl, B2.out⟩
set_option maxRecDepth 100000 in
set_option maxHeartbeats 12800000 in
theorem tlbMids_walk (f g h : Option Addr) (l c m d n kk : Nat) (E : List Ety) (D : List Inv) (A : List Ac9) (w : World) (hl : l = E.length) (hl2 : l ≤ 1000000000000000) (hE : RowsAt KE w f E) (hm : m = D.length) (hm2 : m ≤ 1000000000000000) (hD : RowsAt KI w g D) (hn : n = A.length) (hn2 : n ≤ 1000000000000000) (hA : RowsAt K9 w h A) :
    Calls Try.prog 6 #[.agg #[.slice f l c, .slice g m d, .slice h n kk]] w fun r w' => r = .returned (.bool true) ∧ Below w.heap.size w w' := by
  have HN := Lib.hid hn
  have HL := Lib.hid hA
  have HE := Lib.hid hE
  have HD := Lib.hid hD
  have HLE := Lib.hid hl
  have HLD := Lib.hid hm
  clear hn hA hE hD hl hm
  have htw : w.heap.size ≤ w.heap.size := Nat.le_refl _
  have B0 := Lib.hid (Below.refl w.heap.size w)
  go_enter Try.func6, Try.ntmps6
  go_upto_region 1 with fail
  have P1 := Lib.hid ((BoxAt.newAt (w) #[.slice f l c, .slice g m d, .slice h n kk] 28 (w.heap.size) (by first | omega | (simp; done) | (simp; omega))))
  have B1 := Lib.hid ((bel_alloc B0.out (.cells #[.slice f l c, .slice g m d, .slice h n kk] 28)))
  obtain ⟨g1, hg1⟩ : ∃ g1, g1 = w.heap.size := ⟨_, rfl⟩
  obtain ⟨W1, hW1⟩ : ∃ W1, W1 = (w).alloc (.cells #[.slice f l c, .slice g m d, .slice h n kk] 28) := ⟨_, rfl⟩
  have hs1 : g1 + 1 ≤ W1.heap.size := by rw [hW1, hg1]; simp
  rw [← hW1] at P1 B1 ⊢
  have hb1 : w.heap.size ≤ g1 := by omega
  rw [← hg1] at P1 ⊢
  clear hg1
  clear hW1 B0
  have Pc0 := P1.out.get 0 (.slice f l c) rfl
  have Pc1 := P1.out.get 1 (.slice g m d) rfl
  have Pc2 := P1.out.get 2 (.slice h n kk) rfl
  go_wp2_with fail
  refine (kind_any 5 f g h l c m d n kk E D A _ HLE.out hl2 (HE.out.below B1.out) HLD.out hm2 (HD.out.below B1.out) HN.out hn2 (HL.out.below B1.out)).mono ?_
  rintro e w2 ⟨rfl, hb2⟩
  have hz2 := hb2.size
  have P2 := Lib.hid (P1.out.below hb2)
  have B2 := Lib.hid (bel_trans B1.out hb2)
  skip
  have hs2 : g1 + 1 ≤ w2.heap.size := by omega
  clear Pc0 Pc1 Pc2
  clear P1 B1 hs1 hb2 hz2
  go_wp2
  go_ret
  exact ⟨rfl, B2.out⟩
set_option maxRecDepth 100000 in
set_option maxHeartbeats 12800000 in
theorem tlbWalks_walk (f g h : Option Addr) (l c m d n kk : Nat) (E : List Ety) (D : List Inv) (A : List Ac9) (w : World) (hl : l = E.length) (hl2 : l ≤ 1000000000000000) (hE : RowsAt KE w f E) (hm : m = D.length) (hm2 : m ≤ 1000000000000000) (hD : RowsAt KI w g D) (hn : n = A.length) (hn2 : n ≤ 1000000000000000) (hA : RowsAt K9 w h A) :
    Calls Try.prog 7 #[.agg #[.slice f l c, .slice g m d, .slice h n kk]] w fun r w' => r = .returned (.bool true) ∧ Below w.heap.size w w' := by
  have HN := Lib.hid hn
  have HL := Lib.hid hA
  have HE := Lib.hid hE
  have HD := Lib.hid hD
  have HLE := Lib.hid hl
  have HLD := Lib.hid hm
  clear hn hA hE hD hl hm
  have htw : w.heap.size ≤ w.heap.size := Nat.le_refl _
  have B0 := Lib.hid (Below.refl w.heap.size w)
  go_enter Try.func7, Try.ntmps7
  go_upto_region 1 with fail
  have P1 := Lib.hid ((BoxAt.newAt (w) #[.slice f l c, .slice g m d, .slice h n kk] 28 (w.heap.size) (by first | omega | (simp; done) | (simp; omega))))
  have B1 := Lib.hid ((bel_alloc B0.out (.cells #[.slice f l c, .slice g m d, .slice h n kk] 28)))
  obtain ⟨g1, hg1⟩ : ∃ g1, g1 = w.heap.size := ⟨_, rfl⟩
  obtain ⟨W1, hW1⟩ : ∃ W1, W1 = (w).alloc (.cells #[.slice f l c, .slice g m d, .slice h n kk] 28) := ⟨_, rfl⟩
  have hs1 : g1 + 1 ≤ W1.heap.size := by rw [hW1, hg1]; simp
  rw [← hW1] at P1 B1 ⊢
  have hb1 : w.heap.size ≤ g1 := by omega
  rw [← hg1] at P1 ⊢
  clear hg1
  clear hW1 B0
  have Pc0 := P1.out.get 0 (.slice f l c) rfl
  have Pc1 := P1.out.get 1 (.slice g m d) rfl
  have Pc2 := P1.out.get 2 (.slice h n kk) rfl
  go_wp2_with fail
  refine (kind_any 6 f g h l c m d n kk E D A _ HLE.out hl2 (HE.out.below B1.out) HLD.out hm2 (HD.out.below B1.out) HN.out hn2 (HL.out.below B1.out)).mono ?_
  rintro e w2 ⟨rfl, hb2⟩
  have hz2 := hb2.size
  have P2 := Lib.hid (P1.out.below hb2)
  have B2 := Lib.hid (bel_trans B1.out hb2)
  skip
  have hs2 : g1 + 1 ≤ w2.heap.size := by omega
  clear Pc0 Pc1 Pc2
  clear P1 B1 hs1 hb2 hz2
  go_wp2
  go_ret
  exact ⟨rfl, B2.out⟩
set_option maxRecDepth 100000 in
set_option maxHeartbeats 12800000 in
theorem tlbDrops_walk (f g h : Option Addr) (l c m d n kk : Nat) (E : List Ety) (D : List Inv) (A : List Ac9) (w : World) (hl : l = E.length) (hl2 : l ≤ 1000000000000000) (hE : RowsAt KE w f E) (hm : m = D.length) (hm2 : m ≤ 1000000000000000) (hD : RowsAt KI w g D) (hn : n = A.length) (hn2 : n ≤ 1000000000000000) (hA : RowsAt K9 w h A) :
    Calls Try.prog 8 #[.agg #[.slice f l c, .slice g m d, .slice h n kk]] w fun r w' => r = .returned (.bool true) ∧ Below w.heap.size w w' := by
  have HN := Lib.hid hn
  have HL := Lib.hid hA
  have HE := Lib.hid hE
  have HD := Lib.hid hD
  have HLE := Lib.hid hl
  have HLD := Lib.hid hm
  clear hn hA hE hD hl hm
  have htw : w.heap.size ≤ w.heap.size := Nat.le_refl _
  have B0 := Lib.hid (Below.refl w.heap.size w)
  go_enter Try.func8, Try.ntmps8
  go_upto_region 1 with fail
  have P1 := Lib.hid ((BoxAt.newAt (w) #[.slice f l c, .slice g m d, .slice h n kk] 28 (w.heap.size) (by first | omega | (simp; done) | (simp; omega))))
  have B1 := Lib.hid ((bel_alloc B0.out (.cells #[.slice f l c, .slice g m d, .slice h n kk] 28)))
  obtain ⟨g1, hg1⟩ : ∃ g1, g1 = w.heap.size := ⟨_, rfl⟩
  obtain ⟨W1, hW1⟩ : ∃ W1, W1 = (w).alloc (.cells #[.slice f l c, .slice g m d, .slice h n kk] 28) := ⟨_, rfl⟩
  have hs1 : g1 + 1 ≤ W1.heap.size := by rw [hW1, hg1]; simp
  rw [← hW1] at P1 B1 ⊢
  have hb1 : w.heap.size ≤ g1 := by omega
  rw [← hg1] at P1 ⊢
  clear hg1
  clear hW1 B0
  have Pc0 := P1.out.get 0 (.slice f l c) rfl
  have Pc1 := P1.out.get 1 (.slice g m d) rfl
  have Pc2 := P1.out.get 2 (.slice h n kk) rfl
  go_wp2_with fail
  refine (kind_any 3 f g h l c m d n kk E D A _ HLE.out hl2 (HE.out.below B1.out) HLD.out hm2 (HD.out.below B1.out) HN.out hn2 (HL.out.below B1.out)).mono ?_
  rintro e w2 ⟨rfl, hb2⟩
  have hz2 := hb2.size
  have P2 := Lib.hid (P1.out.below hb2)
  have B2 := Lib.hid (bel_trans B1.out hb2)
  skip
  have hs2 : g1 + 1 ≤ w2.heap.size := by omega
  clear Pc0 Pc1 Pc2
  clear P1 B1 hs1 hb2 hz2
  go_wp2
  go_ret
  exact ⟨rfl, B2.out⟩
end Go.Proofs.Ytcbjmpllmnphkaa
