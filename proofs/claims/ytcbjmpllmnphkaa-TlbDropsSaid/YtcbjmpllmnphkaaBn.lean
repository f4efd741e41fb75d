/- TlbExact's walk. -/
import Derived.Test.YtcbjmpllmnphkaaBm
import Derived.Test.YtcbjmpllmnphkaaBl
import Derived.Test.YtcbjmpllmnphkaaBp
import Derived.Test.YtcbjmpllmnphkaaLd
set_option linter.all false
namespace Go.Proofs.Ytcbjmpllmnphkaa
open Go.ChangeShapes Go.WideShapes Go.ChangeAt Go.RowKit Go.Deep

theorem mayT_len8 {F : List Ety} {D : List Inv} (h : mayT F D = true) : F.length ≤ 8 ∧ D.length ≤ 8 := by
  unfold mayT at h
  simp only [Bool.and_eq_true, decide_eq_true_eq] at h
  exact h.2.2
theorem fill9_len {F : List Ety} {e : Ety} : (fill9 F e).length ≤ F.length + 1 := by
  unfold fill9
  split
  · simp
  · omega
theorem drop9_len {F : List Ety} {i : Nat} : (drop9 F i).length ≤ F.length := by
  unfold drop9
  rw [List.length_append, List.length_take, List.length_drop]
  omega
theorem eqT_same (f g f2 g2 : Option Addr) (l c m d l2 c2 m2 d2 : Nat) (E : List Ety) (D : List Inv) (w : World) (hE : RowsAt KE w f E) (hl : l = E.length) (hD : RowsAt KI w g D) (hm : m = D.length) (hE2 : RowsAt KE w f2 E) (hl2 : l2 = E.length) (hD2 : RowsAt KI w g2 D) (hm2 : m2 = D.length) (hls : l ≤ 1000000) (hms : m ≤ 1000000) :
    Calls Try.prog 30 #[.agg #[.slice f l c, .slice g m d], .agg #[.slice f2 l2 c2, .slice g2 m2 d2]] w fun r w' => r = .returned (.bool true) ∧ Below w.heap.size w w' := by
  have h := eqT_any f g f2 g2 l c m d l2 c2 m2 d2 E E D D w hE hl hD hm hE2 hl2 hD2 hm2 hls hms
  rw [decide_eq_true rfl, decide_eq_true rfl] at h
  exact h
theorem own_row {w : World} {base g n c j : Nat} {L : List Ety} {y : Ety} (h : OwnR KE w base (.slice (some ⟨g, 0, none⟩) n c) L) (hj : L[j]? = some y) : RowAt w g (0 + j * 14) 14 (entC y) := by
  obtain ⟨b, o, he, hr⟩ := h.rows.2 j y hj
  simp only [Option.some.injEq, Addr.mk.injEq, and_true] at he
  obtain ⟨rfl, rfl⟩ := he
  exact hr
set_option maxRecDepth 100000 in
set_option maxHeartbeats 200000000 in
theorem exact9_walk (f g h : Option Addr) (l c m d n kk : Nat) (E : List Ety) (D : List Inv) (A : List Ac9) (w : World) (hl : l = E.length) (hl2 : l ≤ 1000000000000000) (hE : RowsAt KE w f E) (hm : m = D.length) (hm2 : m ≤ 1000000000000000) (hD : RowsAt KI w g D) (hn : n = A.length) (hn2 : n ≤ 1000000000000000) (hA : RowsAt K9 w h A) :
    Calls Try.prog 3 #[.agg #[.slice f l c, .slice g m d, .slice h n kk]] w fun r w' => r = .returned (.bool true) ∧ Below w.heap.size w w' := by
  have HH := Lib.hid (fun W => heavy9_any f g h l c m d n kk W hl2 hm2)
  have HN := Lib.hid hn
  have HL := Lib.hid hA
  have HE := Lib.hid hE
  have HD := Lib.hid hD
  have HLE := Lib.hid hl
  have HLD := Lib.hid hm
  clear hn hA hE hD hl hm
  obtain ⟨hv, hvq⟩ : ∃ hv, hv = (decide (200 < (l : Int) + (m : Int)) || decide (500 < (n : Int))) := ⟨_, rfl⟩
  rw [← hvq] at HH
  have HVQ := Lib.hid hvq
  clear hvq
  have htw : w.heap.size ≤ w.heap.size := Nat.le_refl _
  have B0 := Lib.hid (Below.refl w.heap.size w)
  go_enter Try.func3, Try.ntmps3
  go_upto_region 1 with fail
  have P1 := Lib.hid ((BoxAt.newAt (w) #[.slice f l c, .slice g m d, .slice h n kk] 28 (w.heap.size) (by first | omega | (simp; done) | (simp; omega))))
  have B1 := Lib.hid ((bel_alloc B0.out (.cells #[.slice f l c, .slice g m d, .slice h n kk] 28)))
  obtain ⟨g1, hg1⟩ : ∃ g1, g1 = w.heap.size := ⟨_, rfl⟩
  obtain ⟨W1, hW1⟩ : ∃ W1, W1 = (w).alloc (.cells #[.slice f l c, .slice g m d, .slice h n kk] 28) := ⟨_, rfl⟩
  have hs1 : g1 + 1 ≤ W1.heap.size := by rw [hW1, hg1]; simp
  rw [← hW1] at P1 B1 ⊢
  have hb1 : w.heap.size ≤ g1 := by omega
  rw [← hg1] at P1 ⊢
  clear hg1
  clear hW1 B0
  have Pc0 := P1.out.get 0 (.slice f l c) rfl
  have Pc1 := P1.out.get 1 (.slice g m d) rfl
  have Pc2 := P1.out.get 2 (.slice h n kk) rfl
  go_wp2_with fail
  refine (HH.out _).mono ?_
  rintro e w2 ⟨rfl, hb2⟩
  have hz2 := hb2.size
  have P2 := Lib.hid (P1.out.below hb2)
  have B2 := Lib.hid (bel_trans B1.out hb2)
  skip
  have hs2 : g1 + 1 ≤ w2.heap.size := by omega
  clear Pc0 Pc1 Pc2
  clear P1 B1 hs1 hb2 hz2
  cases hv
  · have hlm : l ≤ 200 ∧ m ≤ 200 := by have h := HVQ.out; simp at h; omega
    have Pc0 := P2.out.get 0 (.slice f l c) rfl
    have Pc1 := P2.out.get 1 (.slice g m d) rfl
    go_wp2_with fail
    refine (copyT_any f g l c m d E D _ (HE.out.below B2.out) (HLE.out) (HD.out.below B2.out) (HLD.out) (by omega) (by omega)).mono ?_
    rintro e w3 ⟨f3, c3, g3, d3, rfl, hE3, hD3, hb3⟩
    have OE3 := Lib.hid (OwnR.mono hE3 (base' := w.heap.size) (by first | omega | (simp; done) | (simp; omega)))
    have OD3 := Lib.hid (OwnR.mono hD3 (base' := w.heap.size) (by first | omega | (simp; done) | (simp; omega)))
    clear hE3 hD3
    have hz3 := hb3.size
    have P3 := Lib.hid (P2.out.below hb3)
    have B3 := Lib.hid (bel_trans B2.out hb3)
    skip
    have hs3 : g1 + 1 ≤ w3.heap.size := by omega
    clear Pc0 Pc1
    clear P2 B2 hs2 hb3 hz3
    go_upto_region 4 with fail
    have P4 := Lib.hid ((P3.out.alloc (.cells #[.slice f3 E.length c3, .slice g3 D.length d3] 25)))
    have T4 := Lib.hid ((BoxAt.newAt (w3) #[.slice f3 E.length c3, .slice g3 D.length d3] 25 (w3.heap.size) (by first | omega | (simp; done) | (simp; omega))))
    have TE4 := Lib.hid ((OE3.out.alloc (.cells #[.slice f3 E.length c3, .slice g3 D.length d3] 25)))
    have TD4 := Lib.hid ((OD3.out.alloc (.cells #[.slice f3 E.length c3, .slice g3 D.length d3] 25)))
    have B4 := Lib.hid ((bel_alloc B3.out (.cells #[.slice f3 E.length c3, .slice g3 D.length d3] 25)))
    obtain ⟨g4, hg4⟩ : ∃ g4, g4 = w3.heap.size := ⟨_, rfl⟩
    obtain ⟨W4, hW4⟩ : ∃ W4, W4 = (w3).alloc (.cells #[.slice f3 E.length c3, .slice g3 D.length d3] 25) := ⟨_, rfl⟩
    have hs4 : g4 + 1 ≤ W4.heap.size := by rw [hW4, hg4]; simp
    rw [← hW4] at P4 T4 TE4 TD4 B4 ⊢
    have hb4 : g1 + 1 ≤ g4 := by omega
    rw [← hg4] at T4 ⊢
    clear hg4
    clear hW4 P3 OE3 OD3 B3 hs3
    go_wp2
    go_loopw [4] (fun i wr => ∃ (k : Nat) (F : List Ety) (D2 : List Inv) (tf tg : Option Addr) (tl tc tm td : Nat), k ≤ n ∧ i = .int .i64 k ∧ Hid (BoxAt wr (g1) #[.slice f l c, .slice g m d, .slice h n kk] 28) ∧ Hid (BoxAt wr (g4) #[.slice tf tl tc, .slice tg tm td] 25) ∧ Hid (OwnR KE wr w.heap.size (.slice tf tl tc) F) ∧ Hid (OwnR KI wr w.heap.size (.slice tg tm td) D2) ∧ Hid (F.length ≤ 200 ∧ D2.length ≤ 200) ∧ Hid (Below w.heap.size w wr)) (fun i _ => n - (intOf i).toNat)
    case atStart => exact ⟨0, E, D, f3, g3, E.length, c3, D.length, d3, Nat.zero_le _, rfl, P4.out, T4.out, TE4.out, TD4.out, (show E.length ≤ 200 ∧ D.length ≤ 200 from by have h1 := HLE.out; have h2 := HLD.out; omega), B4.out⟩
    case round =>
      clear B4 P4 T4 TE4 TD4
      obtain ⟨k, F, D2, tf, tg, tl, tc, tm, td, hk, rfl, Pr, Tr, TEr, TDr, HLN, Br⟩ := hrel
      obtain ⟨mr, hmr⟩ : ∃ mr, mr = wr.heap.size := ⟨_, rfl⟩
      have hmg : g1 + 1 ≤ mr := by rw [hmr]; exact Pr.out.lt
      have hmt : g4 + 1 ≤ mr := by rw [hmr]; exact Tr.out.lt
      have hsr : mr ≤ wr.heap.size := by omega
      skip
      have htl : tl ≤ 200 := by have h1 := TEr.out.rows.1; have h2 := HLN.out.1; omega
      have htm : tm ≤ 200 := by have h1 := TDr.out.rows.1; have h2 := HLN.out.2; omega
      have hFl : F.length ≤ 200 := HLN.out.1
      have hDl : D2.length ≤ 200 := HLN.out.2
      clear hmr
      by_cases hlt : k < n
      · by_cases h20 : k < 20
        · as_aux_lemma =>
            have d20 : decide ((k : Int) < 20) = true := decide_eq_true (by omega)
            obtain ⟨x, hx⟩ := rows_some HN.out hlt
            obtain ⟨b, o, rfl, hr0⟩ := HL.out k x hx
            have HRX := Lib.hid (show RowAt w b (o + k * 19) 19 #[.int .i64 x.d, .int .i64 x.n, .int .i64 x.vm, .int .i64 x.sp, .int .i64 x.acc, .int .i64 x.e.k, .int .i64 x.e.vm, .int .i64 x.e.sp, .bool x.e.al, .int .i64 x.e.pg, .int .i64 x.e.lv, .int .i64 x.e.fr, .int .i64 x.e.mi, .bool x.e.t.r, .bool x.e.t.w, .bool x.e.t.x, .bool x.e.t.a, .bool x.e.t.n, .int .i64 x.e.t.s] from hr0)
            have hbk : b < w.heap.size := hr0.lt
            clear hr0 hx
            have i1 : (0 : Int) ≤ (k : Int) := by omega
            have i2 : (k : Int) < (n : Int) := by omega
            obtain ⟨dd, hdd⟩ : ∃ dd, dd = within9 x.d 7 := ⟨_, rfl⟩
            have hw7 := fun W => within9_any x.d 7 W (by decide) (by decide)
            rw [← hdd] at hw7
            have HW7 := Lib.hid hw7
            have dd0 : 0 ≤ dd ∧ dd < 7 := by rw [hdd]; exact within9_7 x.d
            clear hw7 hdd
            obtain ⟨mt, hmt9⟩ : ∃ mt, mt = mayT F D2 := ⟨_, rfl⟩
            have hmy := fun W (hE : OwnR KE W w.heap.size (.slice tf tl tc) F) (hD : OwnR KI W w.heap.size (.slice tg tm td) D2) => mayT_any tf tg tl tc tm td F D2 W hE.rows.2 hE.rows.1 hD.rows.2 hD.rows.1 (by omega) (by omega)
            rw [← hmt9] at hmy
            have HMY := Lib.hid hmy
            have HMT := Lib.hid hmt9
            clear hmy hmt9
            have Pc2 := Pr.out.get 2 (.slice (some ⟨b, o, none⟩) n kk) rfl
            go_upto_region 8 with (first | ((with_reducible refine atLoad 36 ?_); refine wpList_ldN rfl 36 _ rfl b (o + k * 19) rfl #[.int .i64 x.d, .int .i64 x.n, .int .i64 x.vm, .int .i64 x.sp, .int .i64 x.acc, .int .i64 x.e.k, .int .i64 x.e.vm, .int .i64 x.e.sp, .bool x.e.al, .int .i64 x.e.pg, .int .i64 x.e.lv, .int .i64 x.e.fr, .int .i64 x.e.mi, .bool x.e.t.r, .bool x.e.t.w, .bool x.e.t.x, .bool x.e.t.a, .bool x.e.t.n, .int .i64 x.e.t.s] Try.underlying36 rfl (by kernel_rfl) ((HRX.out.below Br.out).all (Nat.le_of_ble_eq_true rfl)) ?_) | ((with_reducible refine atStore 36 ?_); refine wpList_storeB rfl 36 _ _ rfl (wr.heap.size) #[.int .i64 x.d, .int .i64 x.n, .int .i64 x.vm, .int .i64 x.sp, .int .i64 x.acc, .int .i64 x.e.k, .int .i64 x.e.vm, .int .i64 x.e.sp, .bool x.e.al, .int .i64 x.e.pg, .int .i64 x.e.lv, .int .i64 x.e.fr, .int .i64 x.e.mi, .bool x.e.t.r, .bool x.e.t.w, .bool x.e.t.x, .bool x.e.t.a, .bool x.e.t.n, .int .i64 x.e.t.s] _ 36 rfl rfl (by kernel_rfl) (by rfl) (by simp [Value.oneCell']) (BoxAt.newAt (wr) #[.int .i64 0, .int .i64 0, .int .i64 0, .int .i64 0, .int .i64 0, .int .i64 0, .int .i64 0, .int .i64 0, .bool false, .int .i64 0, .int .i64 0, .int .i64 0, .int .i64 0, .bool false, .bool false, .bool false, .bool false, .bool false, .int .i64 0] 36 (wr.heap.size) (by first | omega | (simp; done) | (simp; omega))) ?_))
            clear Pc2
            have P5 := Lib.hid (((Pr.out.alloc (.cells #[.int .i64 0, .int .i64 0, .int .i64 0, .int .i64 0, .int .i64 0, .int .i64 0, .int .i64 0, .int .i64 0, .bool false, .int .i64 0, .int .i64 0, .int .i64 0, .int .i64 0, .bool false, .bool false, .bool false, .bool false, .bool false, .int .i64 0] 36)).row (cs' := #[.int .i64 x.d, .int .i64 x.n, .int .i64 x.vm, .int .i64 x.sp, .int .i64 x.acc, .int .i64 x.e.k, .int .i64 x.e.vm, .int .i64 x.e.sp, .bool x.e.al, .int .i64 x.e.pg, .int .i64 x.e.lv, .int .i64 x.e.fr, .int .i64 x.e.mi, .bool x.e.t.r, .bool x.e.t.w, .bool x.e.t.x, .bool x.e.t.a, .bool x.e.t.n, .int .i64 x.e.t.s]) (show g1 ≠ wr.heap.size by omega)))
            have T5 := Lib.hid (((Tr.out.alloc (.cells #[.int .i64 0, .int .i64 0, .int .i64 0, .int .i64 0, .int .i64 0, .int .i64 0, .int .i64 0, .int .i64 0, .bool false, .int .i64 0, .int .i64 0, .int .i64 0, .int .i64 0, .bool false, .bool false, .bool false, .bool false, .bool false, .int .i64 0] 36)).row (cs' := #[.int .i64 x.d, .int .i64 x.n, .int .i64 x.vm, .int .i64 x.sp, .int .i64 x.acc, .int .i64 x.e.k, .int .i64 x.e.vm, .int .i64 x.e.sp, .bool x.e.al, .int .i64 x.e.pg, .int .i64 x.e.lv, .int .i64 x.e.fr, .int .i64 x.e.mi, .bool x.e.t.r, .bool x.e.t.w, .bool x.e.t.x, .bool x.e.t.a, .bool x.e.t.n, .int .i64 x.e.t.s]) (show g4 ≠ wr.heap.size by omega)))
            have A5 := Lib.hid (((BoxAt.newAt (wr) #[.int .i64 0, .int .i64 0, .int .i64 0, .int .i64 0, .int .i64 0, .int .i64 0, .int .i64 0, .int .i64 0, .bool false, .int .i64 0, .int .i64 0, .int .i64 0, .int .i64 0, .bool false, .bool false, .bool false, .bool false, .bool false, .int .i64 0] 36 (wr.heap.size) (by first | omega | (simp; done) | (simp; omega))).put (cs' := #[.int .i64 x.d, .int .i64 x.n, .int .i64 x.vm, .int .i64 x.sp, .int .i64 x.acc, .int .i64 x.e.k, .int .i64 x.e.vm, .int .i64 x.e.sp, .bool x.e.al, .int .i64 x.e.pg, .int .i64 x.e.lv, .int .i64 x.e.fr, .int .i64 x.e.mi, .bool x.e.t.r, .bool x.e.t.w, .bool x.e.t.x, .bool x.e.t.a, .bool x.e.t.n, .int .i64 x.e.t.s])))
            have TE5 := Lib.hid (((TEr.out.alloc (.cells #[.int .i64 0, .int .i64 0, .int .i64 0, .int .i64 0, .int .i64 0, .int .i64 0, .int .i64 0, .int .i64 0, .bool false, .int .i64 0, .int .i64 0, .int .i64 0, .int .i64 0, .bool false, .bool false, .bool false, .bool false, .bool false, .int .i64 0] 36)).rowN (g := wr.heap.size) (cs := #[.int .i64 x.d, .int .i64 x.n, .int .i64 x.vm, .int .i64 x.sp, .int .i64 x.acc, .int .i64 x.e.k, .int .i64 x.e.vm, .int .i64 x.e.sp, .bool x.e.al, .int .i64 x.e.pg, .int .i64 x.e.lv, .int .i64 x.e.fr, .int .i64 x.e.mi, .bool x.e.t.r, .bool x.e.t.w, .bool x.e.t.x, .bool x.e.t.a, .bool x.e.t.n, .int .i64 x.e.t.s]) (fun he => absurd (TEr.out.blt _ he) (by first | omega | (simp; omega)))))
            have TD5 := Lib.hid (((TDr.out.alloc (.cells #[.int .i64 0, .int .i64 0, .int .i64 0, .int .i64 0, .int .i64 0, .int .i64 0, .int .i64 0, .int .i64 0, .bool false, .int .i64 0, .int .i64 0, .int .i64 0, .int .i64 0, .bool false, .bool false, .bool false, .bool false, .bool false, .int .i64 0] 36)).rowN (g := wr.heap.size) (cs := #[.int .i64 x.d, .int .i64 x.n, .int .i64 x.vm, .int .i64 x.sp, .int .i64 x.acc, .int .i64 x.e.k, .int .i64 x.e.vm, .int .i64 x.e.sp, .bool x.e.al, .int .i64 x.e.pg, .int .i64 x.e.lv, .int .i64 x.e.fr, .int .i64 x.e.mi, .bool x.e.t.r, .bool x.e.t.w, .bool x.e.t.x, .bool x.e.t.a, .bool x.e.t.n, .int .i64 x.e.t.s]) (fun he => absurd (TDr.out.blt _ he) (by first | omega | (simp; omega)))))
            have B5 := Lib.hid ((Below.rowB (g := wr.heap.size) (bel_alloc Br.out (.cells #[.int .i64 0, .int .i64 0, .int .i64 0, .int .i64 0, .int .i64 0, .int .i64 0, .int .i64 0, .int .i64 0, .bool false, .int .i64 0, .int .i64 0, .int .i64 0, .int .i64 0, .bool false, .bool false, .bool false, .bool false, .bool false, .int .i64 0] 36)) (cs := #[.int .i64 x.d, .int .i64 x.n, .int .i64 x.vm, .int .i64 x.sp, .int .i64 x.acc, .int .i64 x.e.k, .int .i64 x.e.vm, .int .i64 x.e.sp, .bool x.e.al, .int .i64 x.e.pg, .int .i64 x.e.lv, .int .i64 x.e.fr, .int .i64 x.e.mi, .bool x.e.t.r, .bool x.e.t.w, .bool x.e.t.x, .bool x.e.t.a, .bool x.e.t.n, .int .i64 x.e.t.s]) (show w.heap.size ≤ wr.heap.size by omega)))
            obtain ⟨g5, hg5⟩ : ∃ g5, g5 = wr.heap.size := ⟨_, rfl⟩
            obtain ⟨W5, hW5⟩ : ∃ W5, W5 = ((wr).alloc (.cells #[.int .i64 0, .int .i64 0, .int .i64 0, .int .i64 0, .int .i64 0, .int .i64 0, .int .i64 0, .int .i64 0, .bool false, .int .i64 0, .int .i64 0, .int .i64 0, .int .i64 0, .bool false, .bool false, .bool false, .bool false, .bool false, .int .i64 0] 36)).setRow (wr.heap.size) #[.int .i64 x.d, .int .i64 x.n, .int .i64 x.vm, .int .i64 x.sp, .int .i64 x.acc, .int .i64 x.e.k, .int .i64 x.e.vm, .int .i64 x.e.sp, .bool x.e.al, .int .i64 x.e.pg, .int .i64 x.e.lv, .int .i64 x.e.fr, .int .i64 x.e.mi, .bool x.e.t.r, .bool x.e.t.w, .bool x.e.t.x, .bool x.e.t.a, .bool x.e.t.n, .int .i64 x.e.t.s] := ⟨_, rfl⟩
            have hs5 : g5 + 1 ≤ W5.heap.size := by rw [hW5, hg5]; simp
            rw [← hW5] at P5 T5 A5 TE5 TD5 B5 ⊢
            have hb5 : mr ≤ g5 := by omega
            rw [← hg5] at A5 ⊢
            clear hg5
            clear hW5 Pr Tr TEr TDr Br hsr
            have Tc0 := T5.out.get 0 (.slice tf tl tc) rfl
            have Tc1 := T5.out.get 1 (.slice tg tm td) rfl
            as_aux_lemma =>
              go_wp2_with fail
              refine (HMY.out _ (TE5.out) (TD5.out)).mono ?_
              rintro e w6 ⟨rfl, hb6⟩
              have hz6 := hb6.size
              have P6 := Lib.hid (P5.out.below hb6)
              have T6 := Lib.hid (T5.out.below hb6)
              have A6 := Lib.hid (A5.out.below hb6)
              have TE6 := Lib.hid (TE5.out.below hb6)
              have TD6 := Lib.hid (TD5.out.below hb6)
              have B6 := Lib.hid (bel_trans B5.out hb6)
              skip
              have hs6 : g5 + 1 ≤ w6.heap.size := by omega
              clear Tc0 Tc1
              clear P5 T5 A5 TE5 TD5 B5 hs5 hb6 hz6
              have Tc0 := T6.out.get 0 (.slice tf tl tc) rfl
              have Tc1 := T6.out.get 1 (.slice tg tm td) rfl
              go_wp2_with fail
              refine (copyT_any tf tg tl tc tm td F D2 _ ((TE6.out).rows.2) ((TE6.out).rows.1) ((TD6.out).rows.2) ((TD6.out).rows.1) (by omega) (by omega)).mono ?_
              rintro e w7 ⟨f7, c7, g7, d7, rfl, hE7, hD7, hb7⟩
              have OE7 := Lib.hid (OwnR.mono hE7 (base' := w.heap.size) (by first | omega | (simp; done) | (simp; omega)))
              have OD7 := Lib.hid (OwnR.mono hD7 (base' := w.heap.size) (by first | omega | (simp; done) | (simp; omega)))
              clear hE7 hD7
              have hz7 := hb7.size
              have P7 := Lib.hid (P6.out.below hb7)
              have T7 := Lib.hid (T6.out.below hb7)
              have A7 := Lib.hid (A6.out.below hb7)
              have TE7 := Lib.hid (TE6.out.below hb7)
              have TD7 := Lib.hid (TD6.out.below hb7)
              have B7 := Lib.hid (bel_trans B6.out hb7)
              skip
              have hs7 : g5 + 1 ≤ w7.heap.size := by omega
              clear Tc0 Tc1
              clear P6 T6 A6 TE6 TD6 B6 hs6 hb7 hz7
              go_upto_region 10 with fail
              have P8 := Lib.hid ((P7.out.alloc (.cells #[.slice f7 F.length c7, .slice g7 D2.length d7] 25)))
              have T8 := Lib.hid ((T7.out.alloc (.cells #[.slice f7 F.length c7, .slice g7 D2.length d7] 25)))
              have A8 := Lib.hid ((A7.out.alloc (.cells #[.slice f7 F.length c7, .slice g7 D2.length d7] 25)))
              have I8 := Lib.hid ((BoxAt.newAt (w7) #[.slice f7 F.length c7, .slice g7 D2.length d7] 25 (w7.heap.size) (by first | omega | (simp; done) | (simp; omega))))
              have TE8 := Lib.hid ((TE7.out.alloc (.cells #[.slice f7 F.length c7, .slice g7 D2.length d7] 25)))
              have TD8 := Lib.hid ((TD7.out.alloc (.cells #[.slice f7 F.length c7, .slice g7 D2.length d7] 25)))
              have IE8 := Lib.hid ((OE7.out.alloc (.cells #[.slice f7 F.length c7, .slice g7 D2.length d7] 25)))
              have ID8 := Lib.hid ((OD7.out.alloc (.cells #[.slice f7 F.length c7, .slice g7 D2.length d7] 25)))
              have B8 := Lib.hid ((bel_alloc B7.out (.cells #[.slice f7 F.length c7, .slice g7 D2.length d7] 25)))
              obtain ⟨g8, hg8⟩ : ∃ g8, g8 = w7.heap.size := ⟨_, rfl⟩
              obtain ⟨W8, hW8⟩ : ∃ W8, W8 = (w7).alloc (.cells #[.slice f7 F.length c7, .slice g7 D2.length d7] 25) := ⟨_, rfl⟩
              have hs8 : g8 + 1 ≤ W8.heap.size := by rw [hW8, hg8]; simp
              rw [← hW8] at P8 T8 A8 I8 TE8 TD8 IE8 ID8 B8 ⊢
              have hb8 : g5 + 1 ≤ g8 := by omega
              rw [← hg8] at I8 ⊢
              clear hg8
              clear hW8 P7 T7 A7 TE7 TD7 OE7 OD7 B7 hs7
              go_upto_region 12 with fail
              have P9 := Lib.hid (((P8.out.alloc (.cells #[.slice none 0 0, .slice none 0 0] 25)).alloc (.cells #[.slice none 0 0, .slice none 0 0] 25)))
              have T9 := Lib.hid (((T8.out.alloc (.cells #[.slice none 0 0, .slice none 0 0] 25)).alloc (.cells #[.slice none 0 0, .slice none 0 0] 25)))
              have A9 := Lib.hid (((A8.out.alloc (.cells #[.slice none 0 0, .slice none 0 0] 25)).alloc (.cells #[.slice none 0 0, .slice none 0 0] 25)))
              have I9 := Lib.hid (((I8.out.alloc (.cells #[.slice none 0 0, .slice none 0 0] 25)).alloc (.cells #[.slice none 0 0, .slice none 0 0] 25)))
              have X9 := Lib.hid (((BoxAt.newAt (W8) #[.slice none 0 0, .slice none 0 0] 25 (W8.heap.size) (by first | omega | (simp; done) | (simp; omega))).alloc (.cells #[.slice none 0 0, .slice none 0 0] 25)))
              have V9 := Lib.hid ((BoxAt.newAt ((W8).alloc (.cells #[.slice none 0 0, .slice none 0 0] 25)) #[.slice none 0 0, .slice none 0 0] 25 (W8.heap.size + 1) (by first | omega | (simp; done) | (simp; omega))))
              have TE9 := Lib.hid (((TE8.out.alloc (.cells #[.slice none 0 0, .slice none 0 0] 25)).alloc (.cells #[.slice none 0 0, .slice none 0 0] 25)))
              have TD9 := Lib.hid (((TD8.out.alloc (.cells #[.slice none 0 0, .slice none 0 0] 25)).alloc (.cells #[.slice none 0 0, .slice none 0 0] 25)))
              have IE9 := Lib.hid (((IE8.out.alloc (.cells #[.slice none 0 0, .slice none 0 0] 25)).alloc (.cells #[.slice none 0 0, .slice none 0 0] 25)))
              have ID9 := Lib.hid (((ID8.out.alloc (.cells #[.slice none 0 0, .slice none 0 0] 25)).alloc (.cells #[.slice none 0 0, .slice none 0 0] 25)))
              have B9 := Lib.hid ((bel_alloc (bel_alloc B8.out (.cells #[.slice none 0 0, .slice none 0 0] 25)) (.cells #[.slice none 0 0, .slice none 0 0] 25)))
              obtain ⟨g9, hg9⟩ : ∃ g9, g9 = W8.heap.size := ⟨_, rfl⟩
              obtain ⟨W9, hW9⟩ : ∃ W9, W9 = ((W8).alloc (.cells #[.slice none 0 0, .slice none 0 0] 25)).alloc (.cells #[.slice none 0 0, .slice none 0 0] 25) := ⟨_, rfl⟩
              have hs9 : g9 + 1 + 1 ≤ W9.heap.size := by rw [hW9, hg9]; simp
              rw [← hW9] at P9 T9 A9 I9 X9 V9 TE9 TD9 IE9 ID9 B9 ⊢
              have hb9 : g8 + 1 ≤ g9 := by omega
              rw [← hg9] at X9 V9 ⊢
              clear hg9
              clear hW9 P8 T8 A8 I8 TE8 TD8 IE8 ID8 B8 hs8
              have Ac0 := A9.out.get 0 (.int .i64 x.d) rfl
              go_wp2_with fail
              refine (HW7.out _).mono ?_
              rintro e w10 ⟨rfl, rfl⟩
              go_upto_block 2 with fail
              clear Ac0
              as_aux_lemma =>
                obtain ⟨mZ, hmZ8⟩ : ∃ mZ, mZ = W9.heap.size := ⟨_, rfl⟩
                have hbZ8 : g9 + 1 + 1 ≤ mZ := by omega
                have HTE8 := Lib.hid (show ∀ j, (Value.slice tf tl tc).ownBlock = some j → j < mZ from by rw [hmZ8]; exact (TE9.out).blt)
                have HTD8 := Lib.hid (show ∀ j, (Value.slice tg tm td).ownBlock = some j → j < mZ from by rw [hmZ8]; exact (TD9.out).blt)
                have HIE8 := Lib.hid (show ∀ j, (Value.slice f7 F.length c7).ownBlock = some j → j < mZ from by rw [hmZ8]; exact (IE9.out).blt)
                have HID8 := Lib.hid (show ∀ j, (Value.slice g7 D2.length d7).ownBlock = some j → j < mZ from by rw [hmZ8]; exact (ID9.out).blt)
                have hsZ8 : mZ ≤ W9.heap.size := by omega
                clear hmZ8
                go_cut [8, 11] (fun s8 s11 wx => ∃ (bad : Int) (bZ : Nat) (xf xg wf wg : Option Addr) (xl xc xm xd wl wc wm wd : Nat) (E1 : List Ety) (D1 : List Inv), s8 = .int .i64 bad ∧ s11 = .int .i64 bad ∧ mZ ≤ bZ ∧ bZ ≤ wx.heap.size ∧ Hid (E1.length ≤ 200 ∧ D1.length ≤ 200) ∧ Hid (∀ j, (Value.slice wf wl wc).ownBlock = some j → j < bZ) ∧ Hid (∀ j, (Value.slice wg wm wd).ownBlock = some j → j < bZ) ∧ Hid (BoxAt wx (g1) #[.slice f l c, .slice g m d, .slice (some ⟨b, o, none⟩) n kk] 28) ∧ Hid (BoxAt wx (g4) #[.slice tf tl tc, .slice tg tm td] 25) ∧ Hid (BoxAt wx (g8) #[.slice f7 F.length c7, .slice g7 D2.length d7] 25) ∧ Hid (BoxAt wx (g9) #[.slice xf xl xc, .slice xg xm xd] 25) ∧ Hid (BoxAt wx (g9 + 1) #[.slice wf wl wc, .slice wg wm wd] 25) ∧ Hid (OwnR KE wx w.heap.size (.slice tf tl tc) (F)) ∧ Hid (OwnR KI wx w.heap.size (.slice tg tm td) (D2)) ∧ Hid (OwnR KE wx w.heap.size (.slice f7 F.length c7) (F)) ∧ Hid (OwnR KI wx w.heap.size (.slice g7 D2.length d7) (D2)) ∧ Hid (OwnR KE wx bZ (.slice xf xl xc) (E1)) ∧ Hid (OwnR KI wx bZ (.slice xg xm xd) (D1)) ∧ Hid (OwnR KE wx w.heap.size (.slice wf wl wc) (E1)) ∧ Hid (OwnR KI wx w.heap.size (.slice wg wm wd) (D1)) ∧ Hid (Below w.heap.size w wx))
                case first =>
                  by_cases h3 : dd = 3
                  · as_aux_lemma =>
                      obtain rfl : dd = 3 := h3
                      obtain ⟨nb, hnb⟩ : ∃ nb, nb = numB x.n ((tl : Int) - 1) := ⟨_, rfl⟩
                      have hnm := fun W => num_any x.n ((tl : Int) - 1) W
                      rw [← hnb] at hnm
                      have HNM := Lib.hid hnm
                      have HNB := Lib.hid hnb
                      have hwr : IntKind.i64.wrap ((tl : Int) - 1) = (tl : Int) - 1 := IntWalk.i64_in _ (by omega)
                      clear hnm hnb
                      have HTL := Lib.hid ((TE9.out).rows.1)
                      cases mt
                      · have hpx := fun W (hE : OwnR KE W w.heap.size (.slice f7 F.length c7) F) (hD : OwnR KI W w.heap.size (.slice g7 D2.length d7) D2) => dropO w.heap.size f7 g7 F.length c7 D2.length d7 F D2 x.n W hE hD (by omega) (by omega)
                        rw [show dropR F D2 x.n = ([], [], 1) from by have h := HMT.out; unfold dropR; rw [← h]; rfl] at hpx
                        have HPX := Lib.hid hpx
                        clear hpx
                        have Ic0 := I9.out.get 0 (.slice f7 F.length c7) rfl
                        have Ic1 := I9.out.get 1 (.slice g7 D2.length d7) rfl
                        have Ac1 := A9.out.get 1 (.int .i64 x.n) rfl
                        go_wp2_with fail
                        refine (HPX.out _ (IE9.out) (ID9.out)).mono ?_
                        rintro e w11 ⟨f11, l11, c11, g11, m11, d11, rfl, hl11, hm11, hE11, hD11, hb11⟩
                        obtain rfl : l11 = 0 := hl11
                        obtain rfl : m11 = 0 := hm11
                        obtain ⟨bZ, hbZ⟩ : ∃ bZ, bZ = (W9).heap.size := ⟨_, rfl⟩
                        rw [← hbZ] at hE11 hD11
                        have hbZg : mZ ≤ bZ := by omega
                        have hbZz := hb11.size
                        have hsB : bZ ≤ w11.heap.size := by omega
                        clear hbZz hbZ
                        have OE11 := Lib.hid hE11
                        have OD11 := Lib.hid hD11
                        clear hE11 hD11
                        have hz11 := hb11.size
                        have P11 := Lib.hid (P9.out.below hb11)
                        have T11 := Lib.hid (T9.out.below hb11)
                        have A11 := Lib.hid (A9.out.below hb11)
                        have I11 := Lib.hid (I9.out.below hb11)
                        have X11 := Lib.hid (X9.out.below hb11)
                        have V11 := Lib.hid (V9.out.below hb11)
                        have TE11 := Lib.hid (TE9.out.below hb11)
                        have TD11 := Lib.hid (TD9.out.below hb11)
                        have IE11 := Lib.hid (IE9.out.below hb11)
                        have ID11 := Lib.hid (ID9.out.below hb11)
                        have B11 := Lib.hid (bel_trans B9.out hb11)
                        skip
                        have hs11 : mZ ≤ w11.heap.size := by omega
                        clear Ic0 Ic1 Ac1
                        clear P9 T9 A9 I9 X9 V9 TE9 TD9 IE9 ID9 B9 hb11 hz11
                        go_wp2_with ((with_reducible refine atStore 25 ?_); refine wpList_storeB rfl 25 _ _ rfl (g9) #[.slice f11 0 c11, .slice g11 0 d11] _ 25 rfl rfl (by kernel_rfl) (by rfl) (by simp [Value.oneCell']) X11.out ?_)
                        go_meet
                        exact ⟨1, bZ, f11, g11, none, none, 0, c11, 0, d11, 0, 0, 0, 0, [], [], rfl, rfl, (by omega), (by first | omega | (simp; done) | (simp; omega)), ⟨Nat.zero_le _, Nat.zero_le _⟩, (fun j hj => by simp [Value.ownBlock] at hj), (fun j hj => by simp [Value.ownBlock] at hj), (P11.out.row (cs' := #[.slice f11 0 c11, .slice g11 0 d11]) (show g1 ≠ g9 by omega)), (T11.out.row (cs' := #[.slice f11 0 c11, .slice g11 0 d11]) (show g4 ≠ g9 by omega)), (I11.out.row (cs' := #[.slice f11 0 c11, .slice g11 0 d11]) (show g8 ≠ g9 by omega)), (X11.out.put (cs' := #[.slice f11 0 c11, .slice g11 0 d11])), (V11.out.row (cs' := #[.slice f11 0 c11, .slice g11 0 d11]) (show g9 + 1 ≠ g9 by omega)), (TE11.out.rowN (g := g9) (cs := #[.slice f11 0 c11, .slice g11 0 d11]) (TE11.out.ne_box X11.out (by decide))), (TD11.out.rowN (g := g9) (cs := #[.slice f11 0 c11, .slice g11 0 d11]) (TD11.out.ne_box X11.out (by decide))), (IE11.out.rowN (g := g9) (cs := #[.slice f11 0 c11, .slice g11 0 d11]) (IE11.out.ne_box X11.out (by decide))), (ID11.out.rowN (g := g9) (cs := #[.slice f11 0 c11, .slice g11 0 d11]) (ID11.out.ne_box X11.out (by decide))), (OE11.out.rowN (g := g9) (cs := #[.slice f11 0 c11, .slice g11 0 d11]) (OE11.out.ne_box X11.out (by decide))), (OD11.out.rowN (g := g9) (cs := #[.slice f11 0 c11, .slice g11 0 d11]) (OD11.out.ne_box X11.out (by decide))), OwnR.nil _ _, OwnR.nil _ _, (Below.rowB (g := g9) B11.out (cs := #[.slice f11 0 c11, .slice g11 0 d11]) (show w.heap.size ≤ g9 by omega))⟩
                      have Ac1 := A9.out.get 1 (.int .i64 x.n) rfl
                      have Tc0 := T9.out.get 0 (.slice tf tl tc) rfl
                      go_wp2_with fail
                      refine (HNM.out _).mono ?_
                      rintro e w11 ⟨rfl, rfl⟩
                      cases nb
                      · have hpx := fun W (hE : OwnR KE W w.heap.size (.slice f7 F.length c7) F) (hD : OwnR KI W w.heap.size (.slice g7 D2.length d7) D2) => dropO w.heap.size f7 g7 F.length c7 D2.length d7 F D2 x.n W hE hD (by omega) (by omega)
                        rw [show dropR F D2 x.n = ([], [], 3) from by have h := HMT.out; have h2 := HNB.out; unfold dropR; rw [← h, if_pos rfl, if_neg (by intro h3; have h4 := HTL.out; simp [numB] at h2; omega)]] at hpx
                        have HPX := Lib.hid hpx
                        clear hpx
                        have Ic0 := I9.out.get 0 (.slice f7 F.length c7) rfl
                        have Ic1 := I9.out.get 1 (.slice g7 D2.length d7) rfl
                        go_wp2_with fail
                        refine (HPX.out _ (IE9.out) (ID9.out)).mono ?_
                        rintro e w12 ⟨f12, l12, c12, g12, m12, d12, rfl, hl12, hm12, hE12, hD12, hb12⟩
                        obtain rfl : l12 = 0 := hl12
                        obtain rfl : m12 = 0 := hm12
                        obtain ⟨bZ, hbZ⟩ : ∃ bZ, bZ = (W9).heap.size := ⟨_, rfl⟩
                        rw [← hbZ] at hE12 hD12
                        have hbZg : mZ ≤ bZ := by omega
                        have hbZz := hb12.size
                        have hsB : bZ ≤ w12.heap.size := by omega
                        clear hbZz hbZ
                        have OE12 := Lib.hid hE12
                        have OD12 := Lib.hid hD12
                        clear hE12 hD12
                        have hz12 := hb12.size
                        have P12 := Lib.hid (P9.out.below hb12)
                        have T12 := Lib.hid (T9.out.below hb12)
                        have A12 := Lib.hid (A9.out.below hb12)
                        have I12 := Lib.hid (I9.out.below hb12)
                        have X12 := Lib.hid (X9.out.below hb12)
                        have V12 := Lib.hid (V9.out.below hb12)
                        have TE12 := Lib.hid (TE9.out.below hb12)
                        have TD12 := Lib.hid (TD9.out.below hb12)
                        have IE12 := Lib.hid (IE9.out.below hb12)
                        have ID12 := Lib.hid (ID9.out.below hb12)
                        have B12 := Lib.hid (bel_trans B9.out hb12)
                        skip
                        have hs12 : mZ ≤ w12.heap.size := by omega
                        clear Ac1 Tc0 Ic0 Ic1
                        clear P9 T9 A9 I9 X9 V9 TE9 TD9 IE9 ID9 B9 hb12 hz12
                        go_wp2_with ((with_reducible refine atStore 25 ?_); refine wpList_storeB rfl 25 _ _ rfl (g9) #[.slice f12 0 c12, .slice g12 0 d12] _ 25 rfl rfl (by kernel_rfl) (by rfl) (by simp [Value.oneCell']) X12.out ?_)
                        go_meet
                        exact ⟨3, bZ, f12, g12, none, none, 0, c12, 0, d12, 0, 0, 0, 0, [], [], rfl, rfl, (by omega), (by first | omega | (simp; done) | (simp; omega)), ⟨Nat.zero_le _, Nat.zero_le _⟩, (fun j hj => by simp [Value.ownBlock] at hj), (fun j hj => by simp [Value.ownBlock] at hj), (P12.out.row (cs' := #[.slice f12 0 c12, .slice g12 0 d12]) (show g1 ≠ g9 by omega)), (T12.out.row (cs' := #[.slice f12 0 c12, .slice g12 0 d12]) (show g4 ≠ g9 by omega)), (I12.out.row (cs' := #[.slice f12 0 c12, .slice g12 0 d12]) (show g8 ≠ g9 by omega)), (X12.out.put (cs' := #[.slice f12 0 c12, .slice g12 0 d12])), (V12.out.row (cs' := #[.slice f12 0 c12, .slice g12 0 d12]) (show g9 + 1 ≠ g9 by omega)), (TE12.out.rowN (g := g9) (cs := #[.slice f12 0 c12, .slice g12 0 d12]) (TE12.out.ne_box X12.out (by decide))), (TD12.out.rowN (g := g9) (cs := #[.slice f12 0 c12, .slice g12 0 d12]) (TD12.out.ne_box X12.out (by decide))), (IE12.out.rowN (g := g9) (cs := #[.slice f12 0 c12, .slice g12 0 d12]) (IE12.out.ne_box X12.out (by decide))), (ID12.out.rowN (g := g9) (cs := #[.slice f12 0 c12, .slice g12 0 d12]) (ID12.out.ne_box X12.out (by decide))), (OE12.out.rowN (g := g9) (cs := #[.slice f12 0 c12, .slice g12 0 d12]) (OE12.out.ne_box X12.out (by decide))), (OD12.out.rowN (g := g9) (cs := #[.slice f12 0 c12, .slice g12 0 d12]) (OD12.out.ne_box X12.out (by decide))), OwnR.nil _ _, OwnR.nil _ _, (Below.rowB (g := g9) B12.out (cs := #[.slice f12 0 c12, .slice g12 0 d12]) (show w.heap.size ≤ g9 by omega))⟩
                      obtain ⟨hn0, hn1⟩ : 0 ≤ x.n ∧ x.n ≤ (tl : Int) - 1 := by have h := HNB.out; simpa [numB] using h.symm
                      obtain ⟨gb, rfl, hgb1, hgb2, hgb3⟩ := (TE9.out).there (by omega)
                      clear hgb3
                      have hxn : ((x.n.toNat : Nat) : Int) = x.n := Int.toNat_of_nonneg hn0
                      have hxl : x.n.toNat < tl := by omega
                      have hdr := fun W (hE : OwnR KE W w.heap.size (.slice (some ⟨gb, 0, none⟩) tl tc) F) (hD : OwnR KI W w.heap.size (.slice tg tm td) D2) (hb : gb < W.heap.size) => drop9_any gb 0 tg tl tc tm td x.n.toNat F D2 W hE.rows.2 hE.rows.1 hD.rows.2 hD.rows.1 (by omega) (by omega) hxl hE.fit.1 (by have := hE.fit.2.1; unfold maxLen at this; omega) hb
                      rw [hxn] at hdr
                      have HDR := Lib.hid hdr
                      clear hdr hxn
                      have HLX := Lib.hid (show (drop9 F x.n.toNat).length ≤ 200 ∧ D2.length ≤ 200 from ⟨Nat.le_trans drop9_len hFl, hDl⟩)
                      have hpx := fun W (hE : OwnR KE W w.heap.size (.slice f7 F.length c7) F) (hD : OwnR KI W w.heap.size (.slice g7 D2.length d7) D2) => dropO w.heap.size f7 g7 F.length c7 D2.length d7 F D2 x.n W hE hD (by omega) (by omega)
                      rw [show dropR F D2 x.n = (drop9 F x.n.toNat, D2, 0) from by have h := HMT.out; unfold dropR; rw [← h, if_pos rfl, if_pos ⟨hn0, by have := HTL.out; omega⟩]] at hpx
                      have HPX := Lib.hid hpx
                      clear hpx
                      have Tc1 := T9.out.get 1 (.slice tg tm td) rfl
                      go_wp2_with fail
                      refine (HDR.out _ (TE9.out) (TD9.out) ((TE9.out).blt _ rfl)).mono ?_
                      rintro e w12 ⟨f12, l12, c12, g12, d12, rfl, hl12, hE12, hD12, hb12⟩
                      clear hl12
                      have OE12 := Lib.hid (OwnR.mono hE12 (base' := w.heap.size) (by first | omega | (simp; done) | (simp; omega)))
                      have OD12 := Lib.hid (OwnR.mono hD12 (base' := w.heap.size) (by first | omega | (simp; done) | (simp; omega)))
                      clear hE12 hD12
                      have hz12 := hb12.size
                      have P12 := Lib.hid (P9.out.below hb12)
                      have T12 := Lib.hid (T9.out.below hb12)
                      have A12 := Lib.hid (A9.out.below hb12)
                      have I12 := Lib.hid (I9.out.below hb12)
                      have X12 := Lib.hid (X9.out.below hb12)
                      have V12 := Lib.hid (V9.out.below hb12)
                      have TE12 := Lib.hid (TE9.out.below hb12)
                      have TD12 := Lib.hid (TD9.out.below hb12)
                      have IE12 := Lib.hid (IE9.out.below hb12)
                      have ID12 := Lib.hid (ID9.out.below hb12)
                      have B12 := Lib.hid (bel_trans B9.out hb12)
                      skip
                      have hs12 : mZ ≤ w12.heap.size := by omega
                      clear Ac1 Tc0 Tc1
                      clear P9 T9 A9 I9 X9 V9 TE9 TD9 IE9 ID9 B9 hb12 hz12
                      go_upto_region 23 with ((with_reducible refine atStore 25 ?_); refine wpList_storeB rfl 25 _ _ rfl (g9 + 1) #[.slice f12 l12 c12, .slice g12 tm d12] _ 25 rfl rfl (by kernel_rfl) (by rfl) (by simp [Value.oneCell']) V12.out ?_)
                      have P13 := Lib.hid ((P12.out.row (cs' := #[.slice f12 l12 c12, .slice g12 tm d12]) (show g1 ≠ g9 + 1 by omega)))
                      have T13 := Lib.hid ((T12.out.row (cs' := #[.slice f12 l12 c12, .slice g12 tm d12]) (show g4 ≠ g9 + 1 by omega)))
                      have A13 := Lib.hid ((A12.out.row (cs' := #[.slice f12 l12 c12, .slice g12 tm d12]) (show g5 ≠ g9 + 1 by omega)))
                      have I13 := Lib.hid ((I12.out.row (cs' := #[.slice f12 l12 c12, .slice g12 tm d12]) (show g8 ≠ g9 + 1 by omega)))
                      have X13 := Lib.hid ((X12.out.row (cs' := #[.slice f12 l12 c12, .slice g12 tm d12]) (show g9 ≠ g9 + 1 by omega)))
                      have V13 := Lib.hid ((V12.out.put (cs' := #[.slice f12 l12 c12, .slice g12 tm d12])))
                      have TE13 := Lib.hid ((TE12.out.rowN (g := g9 + 1) (cs := #[.slice f12 l12 c12, .slice g12 tm d12]) (TE12.out.ne_box V12.out (by decide))))
                      have TD13 := Lib.hid ((TD12.out.rowN (g := g9 + 1) (cs := #[.slice f12 l12 c12, .slice g12 tm d12]) (TD12.out.ne_box V12.out (by decide))))
                      have IE13 := Lib.hid ((IE12.out.rowN (g := g9 + 1) (cs := #[.slice f12 l12 c12, .slice g12 tm d12]) (IE12.out.ne_box V12.out (by decide))))
                      have ID13 := Lib.hid ((ID12.out.rowN (g := g9 + 1) (cs := #[.slice f12 l12 c12, .slice g12 tm d12]) (ID12.out.ne_box V12.out (by decide))))
                      have WE13 := Lib.hid ((OE12.out.rowN (g := g9 + 1) (cs := #[.slice f12 l12 c12, .slice g12 tm d12]) (OE12.out.ne_box V12.out (by decide))))
                      have WD13 := Lib.hid ((OD12.out.rowN (g := g9 + 1) (cs := #[.slice f12 l12 c12, .slice g12 tm d12]) (OD12.out.ne_box V12.out (by decide))))
                      have B13 := Lib.hid ((Below.rowB (g := g9 + 1) B12.out (cs := #[.slice f12 l12 c12, .slice g12 tm d12]) (show w.heap.size ≤ g9 + 1 by omega)))
                      obtain ⟨W13, hW13⟩ : ∃ W13, W13 = (w12).setRow (g9 + 1) #[.slice f12 l12 c12, .slice g12 tm d12] := ⟨_, rfl⟩
                      have hs13 : mZ ≤ W13.heap.size := by rw [hW13]; first | exact hs12 | omega | (simp; omega)
                      rw [← hW13] at P13 T13 A13 I13 X13 V13 TE13 TD13 IE13 ID13 WE13 WD13 B13 ⊢
                      clear hW13 P12 T12 A12 I12 X12 V12 TE12 TD12 IE12 ID12 OE12 OD12 B12 hs12
                      have Ic0 := I13.out.get 0 (.slice f7 F.length c7) rfl
                      have Ic1 := I13.out.get 1 (.slice g7 D2.length d7) rfl
                      have Ac1 := A13.out.get 1 (.int .i64 x.n) rfl
                      go_wp2_with fail
                      refine (HPX.out _ (IE13.out) (ID13.out)).mono ?_
                      rintro e w14 ⟨f14, l14, c14, g14, m14, d14, rfl, hl14, hm14, hE14, hD14, hb14⟩
                      clear hl14 hm14
                      obtain ⟨bZ, hbZ⟩ : ∃ bZ, bZ = (W13).heap.size := ⟨_, rfl⟩
                      rw [← hbZ] at hE14 hD14
                      have hbZg : mZ ≤ bZ := by omega
                      have HWE := Lib.hid (show ∀ j, (Value.slice f12 l12 c12).ownBlock = some j → j < bZ from by rw [hbZ]; exact (WE13.out).blt)
                      have HWD := Lib.hid (show ∀ j, (Value.slice g12 tm d12).ownBlock = some j → j < bZ from by rw [hbZ]; exact (WD13.out).blt)
                      have hbZz := hb14.size
                      have hsB : bZ ≤ w14.heap.size := by omega
                      clear hbZz hbZ
                      have OE14 := Lib.hid hE14
                      have OD14 := Lib.hid hD14
                      clear hE14 hD14
                      have hz14 := hb14.size
                      have P14 := Lib.hid (P13.out.below hb14)
                      have T14 := Lib.hid (T13.out.below hb14)
                      have A14 := Lib.hid (A13.out.below hb14)
                      have I14 := Lib.hid (I13.out.below hb14)
                      have X14 := Lib.hid (X13.out.below hb14)
                      have V14 := Lib.hid (V13.out.below hb14)
                      have TE14 := Lib.hid (TE13.out.below hb14)
                      have TD14 := Lib.hid (TD13.out.below hb14)
                      have IE14 := Lib.hid (IE13.out.below hb14)
                      have ID14 := Lib.hid (ID13.out.below hb14)
                      have WE14 := Lib.hid (WE13.out.below hb14)
                      have WD14 := Lib.hid (WD13.out.below hb14)
                      have B14 := Lib.hid (bel_trans B13.out hb14)
                      skip
                      have hs14 : mZ ≤ w14.heap.size := by omega
                      clear Ic0 Ic1 Ac1
                      clear P13 T13 A13 I13 X13 V13 TE13 TD13 IE13 ID13 WE13 WD13 B13 hs13 hb14 hz14
                      go_wp2_with ((with_reducible refine atStore 25 ?_); refine wpList_storeB rfl 25 _ _ rfl (g9) #[.slice f14 l14 c14, .slice g14 m14 d14] _ 25 rfl rfl (by kernel_rfl) (by rfl) (by simp [Value.oneCell']) X14.out ?_)
                      go_meet
                      exact ⟨0, bZ, f14, g14, f12, g12, l14, c14, m14, d14, l12, c12, tm, d12, drop9 F x.n.toNat, D2, rfl, rfl, (by omega), (by first | omega | (simp; done) | (simp; omega)), HLX.out, HWE.out, HWD.out, (P14.out.row (cs' := #[.slice f14 l14 c14, .slice g14 m14 d14]) (show g1 ≠ g9 by omega)), (T14.out.row (cs' := #[.slice f14 l14 c14, .slice g14 m14 d14]) (show g4 ≠ g9 by omega)), (I14.out.row (cs' := #[.slice f14 l14 c14, .slice g14 m14 d14]) (show g8 ≠ g9 by omega)), (X14.out.put (cs' := #[.slice f14 l14 c14, .slice g14 m14 d14])), (V14.out.row (cs' := #[.slice f14 l14 c14, .slice g14 m14 d14]) (show g9 + 1 ≠ g9 by omega)), (TE14.out.rowN (g := g9) (cs := #[.slice f14 l14 c14, .slice g14 m14 d14]) (TE14.out.ne_box X14.out (by decide))), (TD14.out.rowN (g := g9) (cs := #[.slice f14 l14 c14, .slice g14 m14 d14]) (TD14.out.ne_box X14.out (by decide))), (IE14.out.rowN (g := g9) (cs := #[.slice f14 l14 c14, .slice g14 m14 d14]) (IE14.out.ne_box X14.out (by decide))), (ID14.out.rowN (g := g9) (cs := #[.slice f14 l14 c14, .slice g14 m14 d14]) (ID14.out.ne_box X14.out (by decide))), (OE14.out.rowN (g := g9) (cs := #[.slice f14 l14 c14, .slice g14 m14 d14]) (OE14.out.ne_box X14.out (by decide))), (OD14.out.rowN (g := g9) (cs := #[.slice f14 l14 c14, .slice g14 m14 d14]) (OD14.out.ne_box X14.out (by decide))), (WE14.out.rowN (g := g9) (cs := #[.slice f14 l14 c14, .slice g14 m14 d14]) (WE14.out.ne_box X14.out (by decide))), (WD14.out.rowN (g := g9) (cs := #[.slice f14 l14 c14, .slice g14 m14 d14]) (WD14.out.ne_box X14.out (by decide))), (Below.rowB (g := g9) B14.out (cs := #[.slice f14 l14 c14, .slice g14 m14 d14]) (show w.heap.size ≤ g9 by omega))⟩
                  by_cases h4 : dd = 4
                  · as_aux_lemma =>
                      obtain rfl : dd = 4 := h4
                      obtain ⟨q1, q2, hq⟩ : ∃ q1 q2, (q1, q2) = firstR F D2 1 x.vm x.sp x.e.pg x.acc := ⟨_, _, rfl⟩
                      have hpr := fun W (hE : OwnR KE W w.heap.size (.slice f7 F.length c7) F) (hD : OwnR KI W w.heap.size (.slice g7 D2.length d7) D2) => wholeO w.heap.size f7 g7 F.length c7 D2.length d7 F D2 x.vm x.sp x.e.pg x.acc W hE hD (by omega) (by omega)
                      rw [← hq] at hpr
                      simp only [entV, entC] at hpr
                      have HPR := Lib.hid hpr
                      have HQ := Lib.hid hq
                      clear hpr hq
                      obtain ⟨b1, hb1⟩ : ∃ b9, b9 = numB x.vm 15 := ⟨_, rfl⟩
                      have kb1 := fun W => tag9_any x.vm W
                      rw [← hb1] at kb1
                      have Kb1 := Lib.hid kb1
                      have Hb1 := Lib.hid hb1
                      clear kb1 hb1
                      obtain ⟨b2, hb2⟩ : ∃ b9, b9 = numB x.e.pg 4095 := ⟨_, rfl⟩
                      have kb2 := fun W => page_any x.e.pg W
                      rw [← hb2] at kb2
                      have Kb2 := Lib.hid kb2
                      have Hb2 := Lib.hid hb2
                      clear kb2 hb2
                      obtain ⟨b3, hb3⟩ : ∃ b9, b9 = numB x.sp 15 := ⟨_, rfl⟩
                      have kb3 := fun W => tag9_any x.sp W
                      rw [← hb3] at kb3
                      have Kb3 := Lib.hid kb3
                      have Hb3 := Lib.hid hb3
                      clear kb3 hb3
                      obtain ⟨b4, hb4⟩ : ∃ b9, b9 = numB x.acc 2 := ⟨_, rfl⟩
                      have kb4 := fun W => acc_any x.acc W
                      rw [← hb4] at kb4
                      have Kb4 := Lib.hid kb4
                      have Hb4 := Lib.hid hb4
                      clear kb4 hb4
                      have HTL := Lib.hid ((TE9.out).rows.1)
                      go_upto_region 28 with fail
                      have P11 := Lib.hid (((P9.out.alloc (.cells #[.int .i64 0, .int .i64 0, .int .i64 0, .bool false, .int .i64 0, .int .i64 0, .int .i64 0, .int .i64 0, .bool false, .bool false, .bool false, .bool false, .bool false, .int .i64 0] 34)).alloc (.cells #[.int .i64 0, .int .i64 0, .int .i64 0, .bool false, .int .i64 0, .int .i64 0, .int .i64 0, .int .i64 0, .bool false, .bool false, .bool false, .bool false, .bool false, .int .i64 0] 34)))
                      have T11 := Lib.hid (((T9.out.alloc (.cells #[.int .i64 0, .int .i64 0, .int .i64 0, .bool false, .int .i64 0, .int .i64 0, .int .i64 0, .int .i64 0, .bool false, .bool false, .bool false, .bool false, .bool false, .int .i64 0] 34)).alloc (.cells #[.int .i64 0, .int .i64 0, .int .i64 0, .bool false, .int .i64 0, .int .i64 0, .int .i64 0, .int .i64 0, .bool false, .bool false, .bool false, .bool false, .bool false, .int .i64 0] 34)))
                      have A11 := Lib.hid (((A9.out.alloc (.cells #[.int .i64 0, .int .i64 0, .int .i64 0, .bool false, .int .i64 0, .int .i64 0, .int .i64 0, .int .i64 0, .bool false, .bool false, .bool false, .bool false, .bool false, .int .i64 0] 34)).alloc (.cells #[.int .i64 0, .int .i64 0, .int .i64 0, .bool false, .int .i64 0, .int .i64 0, .int .i64 0, .int .i64 0, .bool false, .bool false, .bool false, .bool false, .bool false, .int .i64 0] 34)))
                      have I11 := Lib.hid (((I9.out.alloc (.cells #[.int .i64 0, .int .i64 0, .int .i64 0, .bool false, .int .i64 0, .int .i64 0, .int .i64 0, .int .i64 0, .bool false, .bool false, .bool false, .bool false, .bool false, .int .i64 0] 34)).alloc (.cells #[.int .i64 0, .int .i64 0, .int .i64 0, .bool false, .int .i64 0, .int .i64 0, .int .i64 0, .int .i64 0, .bool false, .bool false, .bool false, .bool false, .bool false, .int .i64 0] 34)))
                      have X11 := Lib.hid (((X9.out.alloc (.cells #[.int .i64 0, .int .i64 0, .int .i64 0, .bool false, .int .i64 0, .int .i64 0, .int .i64 0, .int .i64 0, .bool false, .bool false, .bool false, .bool false, .bool false, .int .i64 0] 34)).alloc (.cells #[.int .i64 0, .int .i64 0, .int .i64 0, .bool false, .int .i64 0, .int .i64 0, .int .i64 0, .int .i64 0, .bool false, .bool false, .bool false, .bool false, .bool false, .int .i64 0] 34)))
                      have V11 := Lib.hid (((V9.out.alloc (.cells #[.int .i64 0, .int .i64 0, .int .i64 0, .bool false, .int .i64 0, .int .i64 0, .int .i64 0, .int .i64 0, .bool false, .bool false, .bool false, .bool false, .bool false, .int .i64 0] 34)).alloc (.cells #[.int .i64 0, .int .i64 0, .int .i64 0, .bool false, .int .i64 0, .int .i64 0, .int .i64 0, .int .i64 0, .bool false, .bool false, .bool false, .bool false, .bool false, .int .i64 0] 34)))
                      have Y11 := Lib.hid (((BoxAt.newAt (W9) #[.int .i64 0, .int .i64 0, .int .i64 0, .bool false, .int .i64 0, .int .i64 0, .int .i64 0, .int .i64 0, .bool false, .bool false, .bool false, .bool false, .bool false, .int .i64 0] 34 (W9.heap.size) (by first | omega | (simp; done) | (simp; omega))).alloc (.cells #[.int .i64 0, .int .i64 0, .int .i64 0, .bool false, .int .i64 0, .int .i64 0, .int .i64 0, .int .i64 0, .bool false, .bool false, .bool false, .bool false, .bool false, .int .i64 0] 34)))
                      have U11 := Lib.hid ((BoxAt.newAt ((W9).alloc (.cells #[.int .i64 0, .int .i64 0, .int .i64 0, .bool false, .int .i64 0, .int .i64 0, .int .i64 0, .int .i64 0, .bool false, .bool false, .bool false, .bool false, .bool false, .int .i64 0] 34)) #[.int .i64 0, .int .i64 0, .int .i64 0, .bool false, .int .i64 0, .int .i64 0, .int .i64 0, .int .i64 0, .bool false, .bool false, .bool false, .bool false, .bool false, .int .i64 0] 34 (W9.heap.size + 1) (by first | omega | (simp; done) | (simp; omega))))
                      have TE11 := Lib.hid (((TE9.out.alloc (.cells #[.int .i64 0, .int .i64 0, .int .i64 0, .bool false, .int .i64 0, .int .i64 0, .int .i64 0, .int .i64 0, .bool false, .bool false, .bool false, .bool false, .bool false, .int .i64 0] 34)).alloc (.cells #[.int .i64 0, .int .i64 0, .int .i64 0, .bool false, .int .i64 0, .int .i64 0, .int .i64 0, .int .i64 0, .bool false, .bool false, .bool false, .bool false, .bool false, .int .i64 0] 34)))
                      have TD11 := Lib.hid (((TD9.out.alloc (.cells #[.int .i64 0, .int .i64 0, .int .i64 0, .bool false, .int .i64 0, .int .i64 0, .int .i64 0, .int .i64 0, .bool false, .bool false, .bool false, .bool false, .bool false, .int .i64 0] 34)).alloc (.cells #[.int .i64 0, .int .i64 0, .int .i64 0, .bool false, .int .i64 0, .int .i64 0, .int .i64 0, .int .i64 0, .bool false, .bool false, .bool false, .bool false, .bool false, .int .i64 0] 34)))
                      have IE11 := Lib.hid (((IE9.out.alloc (.cells #[.int .i64 0, .int .i64 0, .int .i64 0, .bool false, .int .i64 0, .int .i64 0, .int .i64 0, .int .i64 0, .bool false, .bool false, .bool false, .bool false, .bool false, .int .i64 0] 34)).alloc (.cells #[.int .i64 0, .int .i64 0, .int .i64 0, .bool false, .int .i64 0, .int .i64 0, .int .i64 0, .int .i64 0, .bool false, .bool false, .bool false, .bool false, .bool false, .int .i64 0] 34)))
                      have ID11 := Lib.hid (((ID9.out.alloc (.cells #[.int .i64 0, .int .i64 0, .int .i64 0, .bool false, .int .i64 0, .int .i64 0, .int .i64 0, .int .i64 0, .bool false, .bool false, .bool false, .bool false, .bool false, .int .i64 0] 34)).alloc (.cells #[.int .i64 0, .int .i64 0, .int .i64 0, .bool false, .int .i64 0, .int .i64 0, .int .i64 0, .int .i64 0, .bool false, .bool false, .bool false, .bool false, .bool false, .int .i64 0] 34)))
                      have B11 := Lib.hid ((bel_alloc (bel_alloc B9.out (.cells #[.int .i64 0, .int .i64 0, .int .i64 0, .bool false, .int .i64 0, .int .i64 0, .int .i64 0, .int .i64 0, .bool false, .bool false, .bool false, .bool false, .bool false, .int .i64 0] 34)) (.cells #[.int .i64 0, .int .i64 0, .int .i64 0, .bool false, .int .i64 0, .int .i64 0, .int .i64 0, .int .i64 0, .bool false, .bool false, .bool false, .bool false, .bool false, .int .i64 0] 34)))
                      obtain ⟨g11, hg11⟩ : ∃ g11, g11 = W9.heap.size := ⟨_, rfl⟩
                      obtain ⟨W11, hW11⟩ : ∃ W11, W11 = ((W9).alloc (.cells #[.int .i64 0, .int .i64 0, .int .i64 0, .bool false, .int .i64 0, .int .i64 0, .int .i64 0, .int .i64 0, .bool false, .bool false, .bool false, .bool false, .bool false, .int .i64 0] 34)).alloc (.cells #[.int .i64 0, .int .i64 0, .int .i64 0, .bool false, .int .i64 0, .int .i64 0, .int .i64 0, .int .i64 0, .bool false, .bool false, .bool false, .bool false, .bool false, .int .i64 0] 34) := ⟨_, rfl⟩
                      have hs11 : g11 + 1 + 1 ≤ W11.heap.size := by rw [hW11, hg11]; simp
                      rw [← hW11] at P11 T11 A11 I11 X11 V11 Y11 U11 TE11 TD11 IE11 ID11 B11 ⊢
                      have hb11 : mZ ≤ g11 := by omega
                      rw [← hg11] at Y11 U11 ⊢
                      clear hg11
                      clear hW11 P9 T9 A9 I9 X9 V9 TE9 TD9 IE9 ID9 B9
                      go_upto_region 29 with fail
                      go_cut [16] (fun s16 wx => s16 = .bool (b1 && b2) ∧ W11 = wx)
                      case first =>
                        have Ac2 := A11.out.get 2 (.int .i64 x.vm) rfl
                        go_wp2_with fail
                        refine (Kb1.out _).mono ?_
                        rintro e w12 ⟨rfl, rfl⟩
                        cases b1
                        · go_wp2
                          go_meet
                          exact ⟨rfl, rfl⟩
                        have Ac9 := A11.out.get 9 (.int .i64 x.e.pg) rfl
                        go_wp2_with fail
                        refine (Kb2.out _).mono ?_
                        rintro e w13 ⟨rfl, rfl⟩
                        go_wp2
                        go_meet
                        exact ⟨rfl, rfl⟩
                      case rest =>
                      obtain ⟨rfl, rfl⟩ := hcut
                      obtain ⟨isA, hisA⟩ : ∃ b9, b9 = (b1 && b2) := ⟨_, rfl⟩
                      rw [← hisA]
                      have HisA := Lib.hid hisA
                      clear hisA
                      go_upto_block 3 with fail
                      go_cut [11, 16] (fun s11 s16 wx => s11 = .int .i64 q2 ∧ s16 = .bool (isA && b3 && b4) ∧ g11 + 1 + 1 ≤ wx.heap.size ∧ Hid (BoxAt wx (g1) #[.slice f l c, .slice g m d, .slice (some ⟨b, o, none⟩) n kk] 28) ∧ Hid (BoxAt wx (g4) #[.slice tf tl tc, .slice tg tm td] 25) ∧ Hid (BoxAt wx (g5) #[.int .i64 x.d, .int .i64 x.n, .int .i64 x.vm, .int .i64 x.sp, .int .i64 x.acc, .int .i64 x.e.k, .int .i64 x.e.vm, .int .i64 x.e.sp, .bool x.e.al, .int .i64 x.e.pg, .int .i64 x.e.lv, .int .i64 x.e.fr, .int .i64 x.e.mi, .bool x.e.t.r, .bool x.e.t.w, .bool x.e.t.x, .bool x.e.t.a, .bool x.e.t.n, .int .i64 x.e.t.s] 36) ∧ Hid (BoxAt wx (g8) #[.slice f7 F.length c7, .slice g7 D2.length d7] 25) ∧ Hid (BoxAt wx (g9) #[.slice none 0 0, .slice none 0 0] 25) ∧ Hid (BoxAt wx (g9 + 1) #[.slice none 0 0, .slice none 0 0] 25) ∧ Hid (BoxAt wx (g11) #[.int .i64 q1.k, .int .i64 q1.vm, .int .i64 q1.sp, .bool q1.al, .int .i64 q1.pg, .int .i64 q1.lv, .int .i64 q1.fr, .int .i64 q1.mi, .bool q1.t.r, .bool q1.t.w, .bool q1.t.x, .bool q1.t.a, .bool q1.t.n, .int .i64 q1.t.s] 34) ∧ Hid (BoxAt wx (g11 + 1) #[.int .i64 0, .int .i64 0, .int .i64 0, .bool false, .int .i64 0, .int .i64 0, .int .i64 0, .int .i64 0, .bool false, .bool false, .bool false, .bool false, .bool false, .int .i64 0] 34) ∧ Hid (OwnR KE wx (w.heap.size) (.slice tf tl tc) (F)) ∧ Hid (OwnR KI wx (w.heap.size) (.slice tg tm td) (D2)) ∧ Hid (OwnR KE wx (w.heap.size) (.slice f7 F.length c7) (F)) ∧ Hid (OwnR KI wx (w.heap.size) (.slice g7 D2.length d7) (D2)) ∧ Hid (Below w.heap.size w wx))
                      case first =>
                        as_aux_lemma =>
                          have Ic0 := I11.out.get 0 (.slice f7 F.length c7) rfl
                          have Ic1 := I11.out.get 1 (.slice g7 D2.length d7) rfl
                          have Ac2 := A11.out.get 2 (.int .i64 x.vm) rfl
                          have Ac3 := A11.out.get 3 (.int .i64 x.sp) rfl
                          have Ac9 := A11.out.get 9 (.int .i64 x.e.pg) rfl
                          have Ac4 := A11.out.get 4 (.int .i64 x.acc) rfl
                          go_wp2_with fail
                          refine (HPR.out _ (IE11.out) (ID11.out)).mono ?_
                          rintro e w12 ⟨rfl, hb12⟩
                          have hz12 := hb12.size
                          have P12 := Lib.hid (P11.out.below hb12)
                          have T12 := Lib.hid (T11.out.below hb12)
                          have A12 := Lib.hid (A11.out.below hb12)
                          have I12 := Lib.hid (I11.out.below hb12)
                          have X12 := Lib.hid (X11.out.below hb12)
                          have V12 := Lib.hid (V11.out.below hb12)
                          have Y12 := Lib.hid (Y11.out.below hb12)
                          have U12 := Lib.hid (U11.out.below hb12)
                          have TE12 := Lib.hid (TE11.out.below hb12)
                          have TD12 := Lib.hid (TD11.out.below hb12)
                          have IE12 := Lib.hid (IE11.out.below hb12)
                          have ID12 := Lib.hid (ID11.out.below hb12)
                          have B12 := Lib.hid (bel_trans B11.out hb12)
                          skip
                          have hs12 : g11 + 1 + 1 ≤ w12.heap.size := by omega
                          clear Ic0 Ic1 Ac2 Ac3 Ac9 Ac4
                          clear P11 T11 A11 I11 X11 V11 Y11 U11 TE11 TD11 IE11 ID11 B11 hs11 hb12 hz12
                          go_upto_region 33 with ((with_reducible refine atStore 34 ?_); refine wpList_storeB rfl 34 _ _ rfl (g11) #[.int .i64 q1.k, .int .i64 q1.vm, .int .i64 q1.sp, .bool q1.al, .int .i64 q1.pg, .int .i64 q1.lv, .int .i64 q1.fr, .int .i64 q1.mi, .bool q1.t.r, .bool q1.t.w, .bool q1.t.x, .bool q1.t.a, .bool q1.t.n, .int .i64 q1.t.s] _ 34 rfl rfl (by kernel_rfl) (by rfl) (by simp [Value.oneCell']) Y12.out ?_)
                          have P13 := Lib.hid ((P12.out.row (cs' := #[.int .i64 q1.k, .int .i64 q1.vm, .int .i64 q1.sp, .bool q1.al, .int .i64 q1.pg, .int .i64 q1.lv, .int .i64 q1.fr, .int .i64 q1.mi, .bool q1.t.r, .bool q1.t.w, .bool q1.t.x, .bool q1.t.a, .bool q1.t.n, .int .i64 q1.t.s]) (show g1 ≠ g11 by omega)))
                          have T13 := Lib.hid ((T12.out.row (cs' := #[.int .i64 q1.k, .int .i64 q1.vm, .int .i64 q1.sp, .bool q1.al, .int .i64 q1.pg, .int .i64 q1.lv, .int .i64 q1.fr, .int .i64 q1.mi, .bool q1.t.r, .bool q1.t.w, .bool q1.t.x, .bool q1.t.a, .bool q1.t.n, .int .i64 q1.t.s]) (show g4 ≠ g11 by omega)))
                          have A13 := Lib.hid ((A12.out.row (cs' := #[.int .i64 q1.k, .int .i64 q1.vm, .int .i64 q1.sp, .bool q1.al, .int .i64 q1.pg, .int .i64 q1.lv, .int .i64 q1.fr, .int .i64 q1.mi, .bool q1.t.r, .bool q1.t.w, .bool q1.t.x, .bool q1.t.a, .bool q1.t.n, .int .i64 q1.t.s]) (show g5 ≠ g11 by omega)))
                          have I13 := Lib.hid ((I12.out.row (cs' := #[.int .i64 q1.k, .int .i64 q1.vm, .int .i64 q1.sp, .bool q1.al, .int .i64 q1.pg, .int .i64 q1.lv, .int .i64 q1.fr, .int .i64 q1.mi, .bool q1.t.r, .bool q1.t.w, .bool q1.t.x, .bool q1.t.a, .bool q1.t.n, .int .i64 q1.t.s]) (show g8 ≠ g11 by omega)))
                          have X13 := Lib.hid ((X12.out.row (cs' := #[.int .i64 q1.k, .int .i64 q1.vm, .int .i64 q1.sp, .bool q1.al, .int .i64 q1.pg, .int .i64 q1.lv, .int .i64 q1.fr, .int .i64 q1.mi, .bool q1.t.r, .bool q1.t.w, .bool q1.t.x, .bool q1.t.a, .bool q1.t.n, .int .i64 q1.t.s]) (show g9 ≠ g11 by omega)))
                          have V13 := Lib.hid ((V12.out.row (cs' := #[.int .i64 q1.k, .int .i64 q1.vm, .int .i64 q1.sp, .bool q1.al, .int .i64 q1.pg, .int .i64 q1.lv, .int .i64 q1.fr, .int .i64 q1.mi, .bool q1.t.r, .bool q1.t.w, .bool q1.t.x, .bool q1.t.a, .bool q1.t.n, .int .i64 q1.t.s]) (show g9 + 1 ≠ g11 by omega)))
                          have Y13 := Lib.hid ((Y12.out.put (cs' := #[.int .i64 q1.k, .int .i64 q1.vm, .int .i64 q1.sp, .bool q1.al, .int .i64 q1.pg, .int .i64 q1.lv, .int .i64 q1.fr, .int .i64 q1.mi, .bool q1.t.r, .bool q1.t.w, .bool q1.t.x, .bool q1.t.a, .bool q1.t.n, .int .i64 q1.t.s])))
                          have U13 := Lib.hid ((U12.out.row (cs' := #[.int .i64 q1.k, .int .i64 q1.vm, .int .i64 q1.sp, .bool q1.al, .int .i64 q1.pg, .int .i64 q1.lv, .int .i64 q1.fr, .int .i64 q1.mi, .bool q1.t.r, .bool q1.t.w, .bool q1.t.x, .bool q1.t.a, .bool q1.t.n, .int .i64 q1.t.s]) (show g11 + 1 ≠ g11 by omega)))
                          have TE13 := Lib.hid ((TE12.out.rowN (g := g11) (cs := #[.int .i64 q1.k, .int .i64 q1.vm, .int .i64 q1.sp, .bool q1.al, .int .i64 q1.pg, .int .i64 q1.lv, .int .i64 q1.fr, .int .i64 q1.mi, .bool q1.t.r, .bool q1.t.w, .bool q1.t.x, .bool q1.t.a, .bool q1.t.n, .int .i64 q1.t.s]) (fun he => absurd (HTE8.out _ he) (by first | omega | (simp; omega)))))
                          have TD13 := Lib.hid ((TD12.out.rowN (g := g11) (cs := #[.int .i64 q1.k, .int .i64 q1.vm, .int .i64 q1.sp, .bool q1.al, .int .i64 q1.pg, .int .i64 q1.lv, .int .i64 q1.fr, .int .i64 q1.mi, .bool q1.t.r, .bool q1.t.w, .bool q1.t.x, .bool q1.t.a, .bool q1.t.n, .int .i64 q1.t.s]) (TD12.out.ne_box Y12.out (by decide))))
                          have IE13 := Lib.hid ((IE12.out.rowN (g := g11) (cs := #[.int .i64 q1.k, .int .i64 q1.vm, .int .i64 q1.sp, .bool q1.al, .int .i64 q1.pg, .int .i64 q1.lv, .int .i64 q1.fr, .int .i64 q1.mi, .bool q1.t.r, .bool q1.t.w, .bool q1.t.x, .bool q1.t.a, .bool q1.t.n, .int .i64 q1.t.s]) (fun he => absurd (HIE8.out _ he) (by first | omega | (simp; omega)))))
                          have ID13 := Lib.hid ((ID12.out.rowN (g := g11) (cs := #[.int .i64 q1.k, .int .i64 q1.vm, .int .i64 q1.sp, .bool q1.al, .int .i64 q1.pg, .int .i64 q1.lv, .int .i64 q1.fr, .int .i64 q1.mi, .bool q1.t.r, .bool q1.t.w, .bool q1.t.x, .bool q1.t.a, .bool q1.t.n, .int .i64 q1.t.s]) (ID12.out.ne_box Y12.out (by decide))))
                          have B13 := Lib.hid ((Below.rowB (g := g11) B12.out (cs := #[.int .i64 q1.k, .int .i64 q1.vm, .int .i64 q1.sp, .bool q1.al, .int .i64 q1.pg, .int .i64 q1.lv, .int .i64 q1.fr, .int .i64 q1.mi, .bool q1.t.r, .bool q1.t.w, .bool q1.t.x, .bool q1.t.a, .bool q1.t.n, .int .i64 q1.t.s]) (show w.heap.size ≤ g11 by omega)))
                          obtain ⟨W13, hW13⟩ : ∃ W13, W13 = (w12).setRow (g11) #[.int .i64 q1.k, .int .i64 q1.vm, .int .i64 q1.sp, .bool q1.al, .int .i64 q1.pg, .int .i64 q1.lv, .int .i64 q1.fr, .int .i64 q1.mi, .bool q1.t.r, .bool q1.t.w, .bool q1.t.x, .bool q1.t.a, .bool q1.t.n, .int .i64 q1.t.s] := ⟨_, rfl⟩
                          have hs13 : g11 + 1 + 1 ≤ W13.heap.size := by rw [hW13]; first | exact hs12 | omega | (simp; omega)
                          rw [← hW13] at P13 T13 A13 I13 X13 V13 Y13 U13 TE13 TD13 IE13 ID13 B13 ⊢
                          clear hW13 P12 T12 A12 I12 X12 V12 Y12 U12 TE12 TD12 IE12 ID12 B12 hs12
                          cases isA
                          · go_wp2
                            go_meet
                            exact ⟨rfl, rfl, (by first | omega | (simp; done) | (simp; omega)), P13.out, T13.out, A13.out, I13.out, X13.out, V13.out, Y13.out, U13.out, TE13.out, TD13.out, IE13.out, ID13.out, B13.out⟩
                          have Ac3 := A13.out.get 3 (.int .i64 x.sp) rfl
                          go_wp2_with fail
                          refine (Kb3.out _).mono ?_
                          rintro e w14 ⟨rfl, rfl⟩
                          cases b3
                          · go_wp2
                            go_meet
                            exact ⟨rfl, rfl, (by first | omega | (simp; done) | (simp; omega)), P13.out, T13.out, A13.out, I13.out, X13.out, V13.out, Y13.out, U13.out, TE13.out, TD13.out, IE13.out, ID13.out, B13.out⟩
                          have Ac4 := A13.out.get 4 (.int .i64 x.acc) rfl
                          go_wp2_with fail
                          refine (Kb4.out _).mono ?_
                          rintro e w15 ⟨rfl, rfl⟩
                          go_wp2
                          go_meet
                          exact ⟨rfl, rfl, (by first | omega | (simp; done) | (simp; omega)), P13.out, T13.out, A13.out, I13.out, X13.out, V13.out, Y13.out, U13.out, TE13.out, TD13.out, IE13.out, ID13.out, B13.out⟩
                      case rest =>
                      obtain ⟨rfl, rfl, hsq, Pq, Tq, Aq, Iq, Xq, Vq, Yq, Uq, TEq, TDq, IEq, IDq, Bq⟩ := hcut
                      clear P11 T11 A11 I11 X11 V11 Y11 U11 TE11 TD11 IE11 ID11 B11
                      as_aux_lemma =>
                        obtain ⟨isB, hisB⟩ : ∃ b9, b9 = (isA && b3 && b4) := ⟨_, rfl⟩
                        rw [← hisB]
                        have HisB := Lib.hid hisB
                        clear hisB
                        cases mt
                        · obtain ⟨hq1, hq2⟩ := Prod.mk.inj (HQ.out.trans (show firstR F D2 1 x.vm x.sp x.e.pg x.acc = (ent0, 1) from by have h := HMT.out; exact no4 (by rw [← h]; rfl)))
                          subst hq2
                          have hne : eqE (⟨q1.k, q1.vm, q1.sp, q1.al, q1.pg, q1.lv, q1.fr, q1.mi, ⟨q1.t.r, q1.t.w, q1.t.x, q1.t.a, q1.t.n, q1.t.s⟩⟩ : Ety) (⟨0, 0, 0, false, 0, 0, 0, 0, ⟨false, false, false, false, false, 0⟩⟩ : Ety) = true := by show eqE q1 _ = true; rw [hq1]; exact eqE_self _
                          clear hq1
                          go_wp2_with (first | ((with_reducible refine atLoad 34 ?_); refine wpList_ldN rfl 34 _ rfl g11 (0) rfl #[.int .i64 q1.k, .int .i64 q1.vm, .int .i64 q1.sp, .bool q1.al, .int .i64 q1.pg, .int .i64 q1.lv, .int .i64 q1.fr, .int .i64 q1.mi, .bool q1.t.r, .bool q1.t.w, .bool q1.t.x, .bool q1.t.a, .bool q1.t.n, .int .i64 q1.t.s] Try.underlying34 rfl (by kernel_rfl) (Yq.out).all ?_) | ((with_reducible refine atLoad 34 ?_); refine wpList_ldN rfl 34 _ rfl (g11 + 1) (0) rfl #[.int .i64 0, .int .i64 0, .int .i64 0, .bool false, .int .i64 0, .int .i64 0, .int .i64 0, .int .i64 0, .bool false, .bool false, .bool false, .bool false, .bool false, .int .i64 0] Try.underlying34 rfl (by kernel_rfl) (Uq.out).all ?_))
                          go_meet
                          exact ⟨1, mZ, none, none, none, none, 0, 0, 0, 0, 0, 0, 0, 0, [], [], rfl, rfl, (by omega), (by first | omega | (simp; done) | (simp; omega)), ⟨Nat.zero_le _, Nat.zero_le _⟩, (fun j hj => by simp [Value.ownBlock] at hj), (fun j hj => by simp [Value.ownBlock] at hj), Pq.out, Tq.out, Iq.out, Xq.out, Vq.out, TEq.out, TDq.out, IEq.out, IDq.out, OwnR.nil _ _, OwnR.nil _ _, OwnR.nil _ _, OwnR.nil _ _, Bq.out⟩
                        have HIS := Lib.hid (show is4 x.vm x.sp x.e.pg x.acc = isB from by rw [HisB.out, HisA.out, Hb1.out, Hb2.out, Hb3.out, Hb4.out]; rfl)
                        cases isB
                        · obtain ⟨hq1, hq2⟩ := Prod.mk.inj (HQ.out.trans (show firstR F D2 1 x.vm x.sp x.e.pg x.acc = (ent0, 1) from by have h := HIS.out; exact no4 (by rw [h, Bool.and_false])))
                          subst hq2
                          have hne : eqE (⟨q1.k, q1.vm, q1.sp, q1.al, q1.pg, q1.lv, q1.fr, q1.mi, ⟨q1.t.r, q1.t.w, q1.t.x, q1.t.a, q1.t.n, q1.t.s⟩⟩ : Ety) (⟨0, 0, 0, false, 0, 0, 0, 0, ⟨false, false, false, false, false, 0⟩⟩ : Ety) = true := by show eqE q1 _ = true; rw [hq1]; exact eqE_self _
                          clear hq1
                          go_wp2_with (first | ((with_reducible refine atLoad 34 ?_); refine wpList_ldN rfl 34 _ rfl g11 (0) rfl #[.int .i64 q1.k, .int .i64 q1.vm, .int .i64 q1.sp, .bool q1.al, .int .i64 q1.pg, .int .i64 q1.lv, .int .i64 q1.fr, .int .i64 q1.mi, .bool q1.t.r, .bool q1.t.w, .bool q1.t.x, .bool q1.t.a, .bool q1.t.n, .int .i64 q1.t.s] Try.underlying34 rfl (by kernel_rfl) (Yq.out).all ?_) | ((with_reducible refine atLoad 34 ?_); refine wpList_ldN rfl 34 _ rfl (g11 + 1) (0) rfl #[.int .i64 0, .int .i64 0, .int .i64 0, .bool false, .int .i64 0, .int .i64 0, .int .i64 0, .int .i64 0, .bool false, .bool false, .bool false, .bool false, .bool false, .int .i64 0] Try.underlying34 rfl (by kernel_rfl) (Uq.out).all ?_))
                          go_meet
                          exact ⟨1, mZ, none, none, none, none, 0, 0, 0, 0, 0, 0, 0, 0, [], [], rfl, rfl, (by omega), (by first | omega | (simp; done) | (simp; omega)), ⟨Nat.zero_le _, Nat.zero_le _⟩, (fun j hj => by simp [Value.ownBlock] at hj), (fun j hj => by simp [Value.ownBlock] at hj), Pq.out, Tq.out, Iq.out, Xq.out, Vq.out, TEq.out, TDq.out, IEq.out, IDq.out, OwnR.nil _ _, OwnR.nil _ _, OwnR.nil _ _, OwnR.nil _ _, Bq.out⟩
                        rcases look4 (E := F) (D := D2) (by have h := HMT.out; exact h.symm) HIS.out with ⟨hpl, hrs⟩ | ⟨j, ye, hj, hpl, hrs⟩
                        rotate_left
                        · as_aux_lemma =>
                            obtain ⟨gb, rfl, hgb1, hgb2, hgb3⟩ := (TEq.out).there (show 0 < tl from by have h1 := HTL.out; have h2 := (List.getElem?_eq_some_iff.1 hj).1; omega)
                            clear hgb3
                            have hgbz : gb < mZ := HTE8.out gb rfl
                            have hjl : j < tl := by have h1 := HTL.out; have h2 := (List.getElem?_eq_some_iff.1 hj).1; omega
                            have hj0 : decide ((0 : Int) ≤ (j : Int)) = true := decide_eq_true (by omega)
                            have HJ := Lib.hid hj
                            clear hj
                            obtain ⟨hq1, hq2⟩ := Prod.mk.inj (HQ.out.trans (show firstR F D2 1 x.vm x.sp x.e.pg x.acc = (ye, 0) from by exact hrs))
                            subst hq2
                            have hne : eqE (⟨q1.k, q1.vm, q1.sp, q1.al, q1.pg, q1.lv, q1.fr, q1.mi, ⟨q1.t.r, q1.t.w, q1.t.x, q1.t.a, q1.t.n, q1.t.s⟩⟩ : Ety) (⟨ye.k, ye.vm, ye.sp, ye.al, ye.pg, ye.lv, ye.fr, ye.mi, ⟨ye.t.r, ye.t.w, ye.t.x, ye.t.a, ye.t.n, ye.t.s⟩⟩ : Ety) = true := by show eqE q1 _ = true; rw [hq1]; exact eqE_self _
                            clear hq1
                            clear hrs
                            have hat := fun W (hE : OwnR KE W w.heap.size (.slice (some ⟨gb, 0, none⟩) tl tc) F) (hD : OwnR KI W w.heap.size (.slice tg tm td) D2) => whole9_any (some ⟨gb, 0, none⟩) tg tl tc tm td F x.vm x.sp x.e.pg x.acc W hE.rows.2 hE.rows.1 (by omega)
                            rw [hpl] at hat
                            have HAT := Lib.hid hat
                            clear hat hpl
                            have Tc0 := Tq.out.get 0 (.slice (some ⟨gb, 0, none⟩) tl tc) rfl
                            have Tc1 := Tq.out.get 1 (.slice tg tm td) rfl
                            have Ac2 := Aq.out.get 2 (.int .i64 x.vm) rfl
                            have Ac3 := Aq.out.get 3 (.int .i64 x.sp) rfl
                            have Ac9 := Aq.out.get 9 (.int .i64 x.e.pg) rfl
                            have Ac4 := Aq.out.get 4 (.int .i64 x.acc) rfl
                            go_wp2_with fail
                            refine (HAT.out _ (TEq.out) (TDq.out)).mono ?_
                            rintro e w12 ⟨rfl, hb12⟩
                            have hz12 := hb12.size
                            have P12 := Lib.hid (Pq.out.below hb12)
                            have T12 := Lib.hid (Tq.out.below hb12)
                            have A12 := Lib.hid (Aq.out.below hb12)
                            have I12 := Lib.hid (Iq.out.below hb12)
                            have X12 := Lib.hid (Xq.out.below hb12)
                            have V12 := Lib.hid (Vq.out.below hb12)
                            have Y12 := Lib.hid (Yq.out.below hb12)
                            have U12 := Lib.hid (Uq.out.below hb12)
                            have TE12 := Lib.hid (TEq.out.below hb12)
                            have TD12 := Lib.hid (TDq.out.below hb12)
                            have IE12 := Lib.hid (IEq.out.below hb12)
                            have ID12 := Lib.hid (IDq.out.below hb12)
                            have B12 := Lib.hid (bel_trans Bq.out hb12)
                            skip
                            have hs12 : g11 + 1 + 1 ≤ w12.heap.size := by omega
                            clear Tc0 Tc1 Ac2 Ac3 Ac9 Ac4
                            clear Pq Tq Aq Iq Xq Vq Yq Uq TEq TDq IEq IDq Bq hb12 hz12
                            go_upto_region 50 with fail
                            have HRT := Lib.hid (show RowAt w12 gb (0 + j * 14) 14 #[.int .i64 ye.k, .int .i64 ye.vm, .int .i64 ye.sp, .bool ye.al, .int .i64 ye.pg, .int .i64 ye.lv, .int .i64 ye.fr, .int .i64 ye.mi, .bool ye.t.r, .bool ye.t.w, .bool ye.t.x, .bool ye.t.a, .bool ye.t.n, .int .i64 ye.t.s] from own_row (TE12.out) HJ.out)
                            go_upto_region 50 with fail
                            refine wp_region_held_drew (S := (fun w' => BoxAt w' (g4) #[.slice (some ⟨gb, 0, none⟩) tl tc, .slice tg tm td] 25 ∧ RowAt w' (gb) (0 + j * 14) 14 #[.int .i64 ye.k, .int .i64 ye.vm, .int .i64 ye.sp, .bool ye.al, .int .i64 ye.pg, .int .i64 ye.lv, .int .i64 ye.fr, .int .i64 ye.mi, .bool ye.t.r, .bool ye.t.w, .bool ye.t.x, .bool ye.t.a, .bool ye.t.n, .int .i64 ye.t.s])) (by kernel_rfl) ⟨T12.out.drew, HRT.out.drew⟩ (fun hS => ?_)
                            refine tkR 0 207 (v := .pointer (some ⟨g4, 0, none⟩)) rfl hS (fun _ _ => by kernel_rfl) ?_
                            refine tkR 1 208 (v := .slice (some ⟨gb, 0, none⟩) tl tc) rfl hS (fun _ h => run_ld1 22 (.tmp 207) g4 0 (by kernel_rfl) (by kernel_rfl) Try.underlying22 rfl ((h.1).get 0 (.slice (some ⟨gb, 0, none⟩) tl tc) rfl)) ?_
                            refine tkR 2 209 (v := .int .i64 j) rfl hS (fun _ _ => by kernel_rfl) ?_
                            refine tkR 3 210 (v := .pointer (some ⟨gb, 0 + j * 14, none⟩)) rfl hS (fun _ _ => run_ixN 22 34 (.tmp 208) (.tmp 209) gb 0 tl tc j 14 (by kernel_rfl) (by kernel_rfl) (by kernel_rfl) Try.underlying22 (by kernel_rfl) hjl) ?_
                            refine tkR 4 211 (v := .agg #[.int .i64 ye.k, .int .i64 ye.vm, .int .i64 ye.sp, .bool ye.al, .int .i64 ye.pg, .int .i64 ye.lv, .int .i64 ye.fr, .int .i64 ye.mi, .bool ye.t.r, .bool ye.t.w, .bool ye.t.x, .bool ye.t.a, .bool ye.t.n, .int .i64 ye.t.s]) rfl hS (fun _ h => run_ldN 34 (.tmp 210) gb (0 + j * 14) (by kernel_rfl) (by kernel_rfl) Try.underlying34 rfl (by kernel_rfl) ((h.2).sub 0 _ rfl (Nat.le_of_ble_eq_true rfl))) ?_
                            refine tkR 5 8 (v := .int .i64 0) rfl hS (fun _ _ => by kernel_rfl) ?_
                            try simp only [Act.put, List.setIfInBounds_toArray, List.set_cons_zero, List.set_cons_succ]
                            refine wpAnyH_ready (rs := [6]) (by kernel_rfl) (by simp) ?_
                            refine AllReadyH.cons (o := ⟨none, _, _, _, _, _⟩) rfl (fun K hK => ?_) AllReadyH.nil
                            refine step_storeB rfl 34 _ _ rfl _ _ _ 34 rfl rfl (by kernel_rfl) (by rfl) (by simp [Value.oneCell']) (U12.out.drew) ?_
                            refine hK.out _ _ ?_ (fun hS' => ?_)
                            · exact ⟨hS.1.row (show g4 ≠ g11 + 1 by omega), hS.2.row (show gb ≠ g11 + 1 by omega)⟩
                            clear hK K hS
                            have hS := hS'
                            clear hS'
                            try simp only [Act.put]
                            refine wpAnyH_done (by kernel_rfl) ?_ _
                            try simp only [Act.put, List.setIfInBounds_toArray, List.set_cons_zero, List.set_cons_succ]
                            have P13 := Lib.hid (((P12.out.drew).row (cs' := #[.int .i64 ye.k, .int .i64 ye.vm, .int .i64 ye.sp, .bool ye.al, .int .i64 ye.pg, .int .i64 ye.lv, .int .i64 ye.fr, .int .i64 ye.mi, .bool ye.t.r, .bool ye.t.w, .bool ye.t.x, .bool ye.t.a, .bool ye.t.n, .int .i64 ye.t.s]) (show g1 ≠ g11 + 1 by omega)))
                            have T13 := Lib.hid (((T12.out.drew).row (cs' := #[.int .i64 ye.k, .int .i64 ye.vm, .int .i64 ye.sp, .bool ye.al, .int .i64 ye.pg, .int .i64 ye.lv, .int .i64 ye.fr, .int .i64 ye.mi, .bool ye.t.r, .bool ye.t.w, .bool ye.t.x, .bool ye.t.a, .bool ye.t.n, .int .i64 ye.t.s]) (show g4 ≠ g11 + 1 by omega)))
                            have A13 := Lib.hid (((A12.out.drew).row (cs' := #[.int .i64 ye.k, .int .i64 ye.vm, .int .i64 ye.sp, .bool ye.al, .int .i64 ye.pg, .int .i64 ye.lv, .int .i64 ye.fr, .int .i64 ye.mi, .bool ye.t.r, .bool ye.t.w, .bool ye.t.x, .bool ye.t.a, .bool ye.t.n, .int .i64 ye.t.s]) (show g5 ≠ g11 + 1 by omega)))
                            have I13 := Lib.hid (((I12.out.drew).row (cs' := #[.int .i64 ye.k, .int .i64 ye.vm, .int .i64 ye.sp, .bool ye.al, .int .i64 ye.pg, .int .i64 ye.lv, .int .i64 ye.fr, .int .i64 ye.mi, .bool ye.t.r, .bool ye.t.w, .bool ye.t.x, .bool ye.t.a, .bool ye.t.n, .int .i64 ye.t.s]) (show g8 ≠ g11 + 1 by omega)))
                            have X13 := Lib.hid (((X12.out.drew).row (cs' := #[.int .i64 ye.k, .int .i64 ye.vm, .int .i64 ye.sp, .bool ye.al, .int .i64 ye.pg, .int .i64 ye.lv, .int .i64 ye.fr, .int .i64 ye.mi, .bool ye.t.r, .bool ye.t.w, .bool ye.t.x, .bool ye.t.a, .bool ye.t.n, .int .i64 ye.t.s]) (show g9 ≠ g11 + 1 by omega)))
                            have V13 := Lib.hid (((V12.out.drew).row (cs' := #[.int .i64 ye.k, .int .i64 ye.vm, .int .i64 ye.sp, .bool ye.al, .int .i64 ye.pg, .int .i64 ye.lv, .int .i64 ye.fr, .int .i64 ye.mi, .bool ye.t.r, .bool ye.t.w, .bool ye.t.x, .bool ye.t.a, .bool ye.t.n, .int .i64 ye.t.s]) (show g9 + 1 ≠ g11 + 1 by omega)))
                            have Y13 := Lib.hid (((Y12.out.drew).row (cs' := #[.int .i64 ye.k, .int .i64 ye.vm, .int .i64 ye.sp, .bool ye.al, .int .i64 ye.pg, .int .i64 ye.lv, .int .i64 ye.fr, .int .i64 ye.mi, .bool ye.t.r, .bool ye.t.w, .bool ye.t.x, .bool ye.t.a, .bool ye.t.n, .int .i64 ye.t.s]) (show g11 ≠ g11 + 1 by omega)))
                            have U13 := Lib.hid (((U12.out.drew).put (cs' := #[.int .i64 ye.k, .int .i64 ye.vm, .int .i64 ye.sp, .bool ye.al, .int .i64 ye.pg, .int .i64 ye.lv, .int .i64 ye.fr, .int .i64 ye.mi, .bool ye.t.r, .bool ye.t.w, .bool ye.t.x, .bool ye.t.a, .bool ye.t.n, .int .i64 ye.t.s])))
                            have TE13 := Lib.hid (((TE12.out.drew).rowN (g := g11 + 1) (cs := #[.int .i64 ye.k, .int .i64 ye.vm, .int .i64 ye.sp, .bool ye.al, .int .i64 ye.pg, .int .i64 ye.lv, .int .i64 ye.fr, .int .i64 ye.mi, .bool ye.t.r, .bool ye.t.w, .bool ye.t.x, .bool ye.t.a, .bool ye.t.n, .int .i64 ye.t.s]) (fun he => absurd (HTE8.out _ he) (by first | omega | (simp; omega)))))
                            have TD13 := Lib.hid (((TD12.out.drew).rowN (g := g11 + 1) (cs := #[.int .i64 ye.k, .int .i64 ye.vm, .int .i64 ye.sp, .bool ye.al, .int .i64 ye.pg, .int .i64 ye.lv, .int .i64 ye.fr, .int .i64 ye.mi, .bool ye.t.r, .bool ye.t.w, .bool ye.t.x, .bool ye.t.a, .bool ye.t.n, .int .i64 ye.t.s]) (TD12.out.ne_box U12.out (by decide))))
                            have IE13 := Lib.hid (((IE12.out.drew).rowN (g := g11 + 1) (cs := #[.int .i64 ye.k, .int .i64 ye.vm, .int .i64 ye.sp, .bool ye.al, .int .i64 ye.pg, .int .i64 ye.lv, .int .i64 ye.fr, .int .i64 ye.mi, .bool ye.t.r, .bool ye.t.w, .bool ye.t.x, .bool ye.t.a, .bool ye.t.n, .int .i64 ye.t.s]) (fun he => absurd (HIE8.out _ he) (by first | omega | (simp; omega)))))
                            have ID13 := Lib.hid (((ID12.out.drew).rowN (g := g11 + 1) (cs := #[.int .i64 ye.k, .int .i64 ye.vm, .int .i64 ye.sp, .bool ye.al, .int .i64 ye.pg, .int .i64 ye.lv, .int .i64 ye.fr, .int .i64 ye.mi, .bool ye.t.r, .bool ye.t.w, .bool ye.t.x, .bool ye.t.a, .bool ye.t.n, .int .i64 ye.t.s]) (ID12.out.ne_box U12.out (by decide))))
                            have B13 := Lib.hid ((Below.rowB (g := g11 + 1) (Below.drew B12.out) (cs := #[.int .i64 ye.k, .int .i64 ye.vm, .int .i64 ye.sp, .bool ye.al, .int .i64 ye.pg, .int .i64 ye.lv, .int .i64 ye.fr, .int .i64 ye.mi, .bool ye.t.r, .bool ye.t.w, .bool ye.t.x, .bool ye.t.a, .bool ye.t.n, .int .i64 ye.t.s]) (show w.heap.size ≤ g11 + 1 by omega)))
                            obtain ⟨W13, hW13⟩ : ∃ W13, W13 = ((w12).drew).setRow (g11 + 1) #[.int .i64 ye.k, .int .i64 ye.vm, .int .i64 ye.sp, .bool ye.al, .int .i64 ye.pg, .int .i64 ye.lv, .int .i64 ye.fr, .int .i64 ye.mi, .bool ye.t.r, .bool ye.t.w, .bool ye.t.x, .bool ye.t.a, .bool ye.t.n, .int .i64 ye.t.s] := ⟨_, rfl⟩
                            have hs13 : g11 + 1 + 1 ≤ W13.heap.size := by rw [hW13]; first | exact hs12 | omega | (simp; omega)
                            rw [← hW13] at P13 T13 A13 I13 X13 V13 Y13 U13 TE13 TD13 IE13 ID13 B13 ⊢
                            clear hW13 P12 T12 A12 I12 X12 V12 Y12 U12 TE12 TD12 IE12 ID12 B12 hs12
                            go_wp2_with (first | ((with_reducible refine atLoad 34 ?_); refine wpList_ldN rfl 34 _ rfl g11 (0) rfl #[.int .i64 q1.k, .int .i64 q1.vm, .int .i64 q1.sp, .bool q1.al, .int .i64 q1.pg, .int .i64 q1.lv, .int .i64 q1.fr, .int .i64 q1.mi, .bool q1.t.r, .bool q1.t.w, .bool q1.t.x, .bool q1.t.a, .bool q1.t.n, .int .i64 q1.t.s] Try.underlying34 rfl (by kernel_rfl) (Y13.out).all ?_) | ((with_reducible refine atLoad 34 ?_); refine wpList_ldN rfl 34 _ rfl (g11 + 1) (0) rfl #[.int .i64 ye.k, .int .i64 ye.vm, .int .i64 ye.sp, .bool ye.al, .int .i64 ye.pg, .int .i64 ye.lv, .int .i64 ye.fr, .int .i64 ye.mi, .bool ye.t.r, .bool ye.t.w, .bool ye.t.x, .bool ye.t.a, .bool ye.t.n, .int .i64 ye.t.s] Try.underlying34 rfl (by kernel_rfl) (U13.out).all ?_))
                            go_meet
                            exact ⟨0, mZ, none, none, none, none, 0, 0, 0, 0, 0, 0, 0, 0, [], [], rfl, rfl, (by omega), (by first | omega | (simp; done) | (simp; omega)), ⟨Nat.zero_le _, Nat.zero_le _⟩, (fun j hj => by simp [Value.ownBlock] at hj), (fun j hj => by simp [Value.ownBlock] at hj), P13.out, T13.out, I13.out, X13.out, V13.out, TE13.out, TD13.out, IE13.out, ID13.out, OwnR.nil _ _, OwnR.nil _ _, OwnR.nil _ _, OwnR.nil _ _, B13.out⟩
                        · as_aux_lemma =>
                            obtain ⟨hq1, hq2⟩ := Prod.mk.inj (HQ.out.trans (show firstR F D2 1 x.vm x.sp x.e.pg x.acc = (ent0, 3) from by exact hrs))
                            subst hq2
                            have hne : eqE (⟨q1.k, q1.vm, q1.sp, q1.al, q1.pg, q1.lv, q1.fr, q1.mi, ⟨q1.t.r, q1.t.w, q1.t.x, q1.t.a, q1.t.n, q1.t.s⟩⟩ : Ety) (⟨0, 0, 0, false, 0, 0, 0, 0, ⟨false, false, false, false, false, 0⟩⟩ : Ety) = true := by show eqE q1 _ = true; rw [hq1]; exact eqE_self _
                            clear hq1
                            clear hrs
                            have hat := fun W (hE : OwnR KE W w.heap.size (.slice tf tl tc) F) (hD : OwnR KI W w.heap.size (.slice tg tm td) D2) => whole9_any tf tg tl tc tm td F x.vm x.sp x.e.pg x.acc W hE.rows.2 hE.rows.1 (by omega)
                            rw [hpl] at hat
                            have HAT := Lib.hid hat
                            clear hat hpl
                            have Tc0 := Tq.out.get 0 (.slice tf tl tc) rfl
                            have Tc1 := Tq.out.get 1 (.slice tg tm td) rfl
                            have Ac2 := Aq.out.get 2 (.int .i64 x.vm) rfl
                            have Ac3 := Aq.out.get 3 (.int .i64 x.sp) rfl
                            have Ac9 := Aq.out.get 9 (.int .i64 x.e.pg) rfl
                            have Ac4 := Aq.out.get 4 (.int .i64 x.acc) rfl
                            go_wp2_with fail
                            refine (HAT.out _ (TEq.out) (TDq.out)).mono ?_
                            rintro e w12 ⟨rfl, hb12⟩
                            have hz12 := hb12.size
                            have P12 := Lib.hid (Pq.out.below hb12)
                            have T12 := Lib.hid (Tq.out.below hb12)
                            have A12 := Lib.hid (Aq.out.below hb12)
                            have I12 := Lib.hid (Iq.out.below hb12)
                            have X12 := Lib.hid (Xq.out.below hb12)
                            have V12 := Lib.hid (Vq.out.below hb12)
                            have Y12 := Lib.hid (Yq.out.below hb12)
                            have U12 := Lib.hid (Uq.out.below hb12)
                            have TE12 := Lib.hid (TEq.out.below hb12)
                            have TD12 := Lib.hid (TDq.out.below hb12)
                            have IE12 := Lib.hid (IEq.out.below hb12)
                            have ID12 := Lib.hid (IDq.out.below hb12)
                            have B12 := Lib.hid (bel_trans Bq.out hb12)
                            skip
                            have hs12 : g11 + 1 + 1 ≤ w12.heap.size := by omega
                            clear Tc0 Tc1 Ac2 Ac3 Ac9 Ac4
                            clear Pq Tq Aq Iq Xq Vq Yq Uq TEq TDq IEq IDq Bq hb12 hz12
                            go_wp2_with (first | ((with_reducible refine atLoad 34 ?_); refine wpList_ldN rfl 34 _ rfl g11 (0) rfl #[.int .i64 q1.k, .int .i64 q1.vm, .int .i64 q1.sp, .bool q1.al, .int .i64 q1.pg, .int .i64 q1.lv, .int .i64 q1.fr, .int .i64 q1.mi, .bool q1.t.r, .bool q1.t.w, .bool q1.t.x, .bool q1.t.a, .bool q1.t.n, .int .i64 q1.t.s] Try.underlying34 rfl (by kernel_rfl) (Y12.out).all ?_) | ((with_reducible refine atLoad 34 ?_); refine wpList_ldN rfl 34 _ rfl (g11 + 1) (0) rfl #[.int .i64 0, .int .i64 0, .int .i64 0, .bool false, .int .i64 0, .int .i64 0, .int .i64 0, .int .i64 0, .bool false, .bool false, .bool false, .bool false, .bool false, .int .i64 0] Try.underlying34 rfl (by kernel_rfl) (U12.out).all ?_))
                            go_meet
                            exact ⟨3, mZ, none, none, none, none, 0, 0, 0, 0, 0, 0, 0, 0, [], [], rfl, rfl, (by omega), (by first | omega | (simp; done) | (simp; omega)), ⟨Nat.zero_le _, Nat.zero_le _⟩, (fun j hj => by simp [Value.ownBlock] at hj), (fun j hj => by simp [Value.ownBlock] at hj), P12.out, T12.out, I12.out, X12.out, V12.out, TE12.out, TD12.out, IE12.out, ID12.out, OwnR.nil _ _, OwnR.nil _ _, OwnR.nil _ _, OwnR.nil _ _, B12.out⟩
                  by_cases h5 : dd = 5
                  · as_aux_lemma =>
                      obtain rfl : dd = 5 := h5
                      obtain ⟨q1, q2, hq⟩ : ∃ q1 q2, (q1, q2) = firstR F D2 2 x.vm 0 x.e.pg x.acc := ⟨_, _, rfl⟩
                      have hpr := fun W (hE : OwnR KE W w.heap.size (.slice f7 F.length c7) F) (hD : OwnR KI W w.heap.size (.slice g7 D2.length d7) D2) => midO w.heap.size f7 g7 F.length c7 D2.length d7 F D2 x.vm x.e.pg x.acc W hE hD (by omega) (by omega)
                      rw [← hq] at hpr
                      simp only [entV, entC] at hpr
                      have HPR := Lib.hid hpr
                      have HQ := Lib.hid hq
                      clear hpr hq
                      obtain ⟨b1, hb1⟩ : ∃ b9, b9 = numB x.vm 15 := ⟨_, rfl⟩
                      have kb1 := fun W => tag9_any x.vm W
                      rw [← hb1] at kb1
                      have Kb1 := Lib.hid kb1
                      have Hb1 := Lib.hid hb1
                      clear kb1 hb1
                      obtain ⟨b2, hb2⟩ : ∃ b9, b9 = numB x.e.pg 4095 := ⟨_, rfl⟩
                      have kb2 := fun W => page_any x.e.pg W
                      rw [← hb2] at kb2
                      have Kb2 := Lib.hid kb2
                      have Hb2 := Lib.hid hb2
                      clear kb2 hb2
                      obtain ⟨b4, hb4⟩ : ∃ b9, b9 = numB x.acc 2 := ⟨_, rfl⟩
                      have kb4 := fun W => acc_any x.acc W
                      rw [← hb4] at kb4
                      have Kb4 := Lib.hid kb4
                      have Hb4 := Lib.hid hb4
                      clear kb4 hb4
                      have HTL := Lib.hid ((TE9.out).rows.1)
                      go_upto_region 28 with fail
                      have P11 := Lib.hid (((P9.out.alloc (.cells #[.int .i64 0, .int .i64 0, .int .i64 0, .bool false, .int .i64 0, .int .i64 0, .int .i64 0, .int .i64 0, .bool false, .bool false, .bool false, .bool false, .bool false, .int .i64 0] 34)).alloc (.cells #[.int .i64 0, .int .i64 0, .int .i64 0, .bool false, .int .i64 0, .int .i64 0, .int .i64 0, .int .i64 0, .bool false, .bool false, .bool false, .bool false, .bool false, .int .i64 0] 34)))
                      have T11 := Lib.hid (((T9.out.alloc (.cells #[.int .i64 0, .int .i64 0, .int .i64 0, .bool false, .int .i64 0, .int .i64 0, .int .i64 0, .int .i64 0, .bool false, .bool false, .bool false, .bool false, .bool false, .int .i64 0] 34)).alloc (.cells #[.int .i64 0, .int .i64 0, .int .i64 0, .bool false, .int .i64 0, .int .i64 0, .int .i64 0, .int .i64 0, .bool false, .bool false, .bool false, .bool false, .bool false, .int .i64 0] 34)))
                      have A11 := Lib.hid (((A9.out.alloc (.cells #[.int .i64 0, .int .i64 0, .int .i64 0, .bool false, .int .i64 0, .int .i64 0, .int .i64 0, .int .i64 0, .bool false, .bool false, .bool false, .bool false, .bool false, .int .i64 0] 34)).alloc (.cells #[.int .i64 0, .int .i64 0, .int .i64 0, .bool false, .int .i64 0, .int .i64 0, .int .i64 0, .int .i64 0, .bool false, .bool false, .bool false, .bool false, .bool false, .int .i64 0] 34)))
                      have I11 := Lib.hid (((I9.out.alloc (.cells #[.int .i64 0, .int .i64 0, .int .i64 0, .bool false, .int .i64 0, .int .i64 0, .int .i64 0, .int .i64 0, .bool false, .bool false, .bool false, .bool false, .bool false, .int .i64 0] 34)).alloc (.cells #[.int .i64 0, .int .i64 0, .int .i64 0, .bool false, .int .i64 0, .int .i64 0, .int .i64 0, .int .i64 0, .bool false, .bool false, .bool false, .bool false, .bool false, .int .i64 0] 34)))
                      have X11 := Lib.hid (((X9.out.alloc (.cells #[.int .i64 0, .int .i64 0, .int .i64 0, .bool false, .int .i64 0, .int .i64 0, .int .i64 0, .int .i64 0, .bool false, .bool false, .bool false, .bool false, .bool false, .int .i64 0] 34)).alloc (.cells #[.int .i64 0, .int .i64 0, .int .i64 0, .bool false, .int .i64 0, .int .i64 0, .int .i64 0, .int .i64 0, .bool false, .bool false, .bool false, .bool false, .bool false, .int .i64 0] 34)))
                      have V11 := Lib.hid (((V9.out.alloc (.cells #[.int .i64 0, .int .i64 0, .int .i64 0, .bool false, .int .i64 0, .int .i64 0, .int .i64 0, .int .i64 0, .bool false, .bool false, .bool false, .bool false, .bool false, .int .i64 0] 34)).alloc (.cells #[.int .i64 0, .int .i64 0, .int .i64 0, .bool false, .int .i64 0, .int .i64 0, .int .i64 0, .int .i64 0, .bool false, .bool false, .bool false, .bool false, .bool false, .int .i64 0] 34)))
                      have Y11 := Lib.hid (((BoxAt.newAt (W9) #[.int .i64 0, .int .i64 0, .int .i64 0, .bool false, .int .i64 0, .int .i64 0, .int .i64 0, .int .i64 0, .bool false, .bool false, .bool false, .bool false, .bool false, .int .i64 0] 34 (W9.heap.size) (by first | omega | (simp; done) | (simp; omega))).alloc (.cells #[.int .i64 0, .int .i64 0, .int .i64 0, .bool false, .int .i64 0, .int .i64 0, .int .i64 0, .int .i64 0, .bool false, .bool false, .bool false, .bool false, .bool false, .int .i64 0] 34)))
                      have U11 := Lib.hid ((BoxAt.newAt ((W9).alloc (.cells #[.int .i64 0, .int .i64 0, .int .i64 0, .bool false, .int .i64 0, .int .i64 0, .int .i64 0, .int .i64 0, .bool false, .bool false, .bool false, .bool false, .bool false, .int .i64 0] 34)) #[.int .i64 0, .int .i64 0, .int .i64 0, .bool false, .int .i64 0, .int .i64 0, .int .i64 0, .int .i64 0, .bool false, .bool false, .bool false, .bool false, .bool false, .int .i64 0] 34 (W9.heap.size + 1) (by first | omega | (simp; done) | (simp; omega))))
                      have TE11 := Lib.hid (((TE9.out.alloc (.cells #[.int .i64 0, .int .i64 0, .int .i64 0, .bool false, .int .i64 0, .int .i64 0, .int .i64 0, .int .i64 0, .bool false, .bool false, .bool false, .bool false, .bool false, .int .i64 0] 34)).alloc (.cells #[.int .i64 0, .int .i64 0, .int .i64 0, .bool false, .int .i64 0, .int .i64 0, .int .i64 0, .int .i64 0, .bool false, .bool false, .bool false, .bool false, .bool false, .int .i64 0] 34)))
                      have TD11 := Lib.hid (((TD9.out.alloc (.cells #[.int .i64 0, .int .i64 0, .int .i64 0, .bool false, .int .i64 0, .int .i64 0, .int .i64 0, .int .i64 0, .bool false, .bool false, .bool false, .bool false, .bool false, .int .i64 0] 34)).alloc (.cells #[.int .i64 0, .int .i64 0, .int .i64 0, .bool false, .int .i64 0, .int .i64 0, .int .i64 0, .int .i64 0, .bool false, .bool false, .bool false, .bool false, .bool false, .int .i64 0] 34)))
                      have IE11 := Lib.hid (((IE9.out.alloc (.cells #[.int .i64 0, .int .i64 0, .int .i64 0, .bool false, .int .i64 0, .int .i64 0, .int .i64 0, .int .i64 0, .bool false, .bool false, .bool false, .bool false, .bool false, .int .i64 0] 34)).alloc (.cells #[.int .i64 0, .int .i64 0, .int .i64 0, .bool false, .int .i64 0, .int .i64 0, .int .i64 0, .int .i64 0, .bool false, .bool false, .bool false, .bool false, .bool false, .int .i64 0] 34)))
                      have ID11 := Lib.hid (((ID9.out.alloc (.cells #[.int .i64 0, .int .i64 0, .int .i64 0, .bool false, .int .i64 0, .int .i64 0, .int .i64 0, .int .i64 0, .bool false, .bool false, .bool false, .bool false, .bool false, .int .i64 0] 34)).alloc (.cells #[.int .i64 0, .int .i64 0, .int .i64 0, .bool false, .int .i64 0, .int .i64 0, .int .i64 0, .int .i64 0, .bool false, .bool false, .bool false, .bool false, .bool false, .int .i64 0] 34)))
                      have B11 := Lib.hid ((bel_alloc (bel_alloc B9.out (.cells #[.int .i64 0, .int .i64 0, .int .i64 0, .bool false, .int .i64 0, .int .i64 0, .int .i64 0, .int .i64 0, .bool false, .bool false, .bool false, .bool false, .bool false, .int .i64 0] 34)) (.cells #[.int .i64 0, .int .i64 0, .int .i64 0, .bool false, .int .i64 0, .int .i64 0, .int .i64 0, .int .i64 0, .bool false, .bool false, .bool false, .bool false, .bool false, .int .i64 0] 34)))
                      obtain ⟨g11, hg11⟩ : ∃ g11, g11 = W9.heap.size := ⟨_, rfl⟩
                      obtain ⟨W11, hW11⟩ : ∃ W11, W11 = ((W9).alloc (.cells #[.int .i64 0, .int .i64 0, .int .i64 0, .bool false, .int .i64 0, .int .i64 0, .int .i64 0, .int .i64 0, .bool false, .bool false, .bool false, .bool false, .bool false, .int .i64 0] 34)).alloc (.cells #[.int .i64 0, .int .i64 0, .int .i64 0, .bool false, .int .i64 0, .int .i64 0, .int .i64 0, .int .i64 0, .bool false, .bool false, .bool false, .bool false, .bool false, .int .i64 0] 34) := ⟨_, rfl⟩
                      have hs11 : g11 + 1 + 1 ≤ W11.heap.size := by rw [hW11, hg11]; simp
                      rw [← hW11] at P11 T11 A11 I11 X11 V11 Y11 U11 TE11 TD11 IE11 ID11 B11 ⊢
                      have hb11 : mZ ≤ g11 := by omega
                      rw [← hg11] at Y11 U11 ⊢
                      clear hg11
                      clear hW11 P9 T9 A9 I9 X9 V9 TE9 TD9 IE9 ID9 B9
                      go_upto_region 29 with fail
                      go_cut [16] (fun s16 wx => s16 = .bool (b1 && b2) ∧ W11 = wx)
                      case first =>
                        have Ac2 := A11.out.get 2 (.int .i64 x.vm) rfl
                        go_wp2_with fail
                        refine (Kb1.out _).mono ?_
                        rintro e w12 ⟨rfl, rfl⟩
                        cases b1
                        · go_wp2
                          go_meet
                          exact ⟨rfl, rfl⟩
                        have Ac9 := A11.out.get 9 (.int .i64 x.e.pg) rfl
                        go_wp2_with fail
                        refine (Kb2.out _).mono ?_
                        rintro e w13 ⟨rfl, rfl⟩
                        go_wp2
                        go_meet
                        exact ⟨rfl, rfl⟩
                      case rest =>
                      obtain ⟨rfl, rfl⟩ := hcut
                      obtain ⟨isA, hisA⟩ : ∃ b9, b9 = (b1 && b2) := ⟨_, rfl⟩
                      rw [← hisA]
                      have HisA := Lib.hid hisA
                      clear hisA
                      go_upto_block 3 with fail
                      go_cut [11, 16] (fun s11 s16 wx => s11 = .int .i64 q2 ∧ s16 = .bool (isA && b4) ∧ g11 + 1 + 1 ≤ wx.heap.size ∧ Hid (BoxAt wx (g1) #[.slice f l c, .slice g m d, .slice (some ⟨b, o, none⟩) n kk] 28) ∧ Hid (BoxAt wx (g4) #[.slice tf tl tc, .slice tg tm td] 25) ∧ Hid (BoxAt wx (g5) #[.int .i64 x.d, .int .i64 x.n, .int .i64 x.vm, .int .i64 x.sp, .int .i64 x.acc, .int .i64 x.e.k, .int .i64 x.e.vm, .int .i64 x.e.sp, .bool x.e.al, .int .i64 x.e.pg, .int .i64 x.e.lv, .int .i64 x.e.fr, .int .i64 x.e.mi, .bool x.e.t.r, .bool x.e.t.w, .bool x.e.t.x, .bool x.e.t.a, .bool x.e.t.n, .int .i64 x.e.t.s] 36) ∧ Hid (BoxAt wx (g8) #[.slice f7 F.length c7, .slice g7 D2.length d7] 25) ∧ Hid (BoxAt wx (g9) #[.slice none 0 0, .slice none 0 0] 25) ∧ Hid (BoxAt wx (g9 + 1) #[.slice none 0 0, .slice none 0 0] 25) ∧ Hid (BoxAt wx (g11) #[.int .i64 q1.k, .int .i64 q1.vm, .int .i64 q1.sp, .bool q1.al, .int .i64 q1.pg, .int .i64 q1.lv, .int .i64 q1.fr, .int .i64 q1.mi, .bool q1.t.r, .bool q1.t.w, .bool q1.t.x, .bool q1.t.a, .bool q1.t.n, .int .i64 q1.t.s] 34) ∧ Hid (BoxAt wx (g11 + 1) #[.int .i64 0, .int .i64 0, .int .i64 0, .bool false, .int .i64 0, .int .i64 0, .int .i64 0, .int .i64 0, .bool false, .bool false, .bool false, .bool false, .bool false, .int .i64 0] 34) ∧ Hid (OwnR KE wx (w.heap.size) (.slice tf tl tc) (F)) ∧ Hid (OwnR KI wx (w.heap.size) (.slice tg tm td) (D2)) ∧ Hid (OwnR KE wx (w.heap.size) (.slice f7 F.length c7) (F)) ∧ Hid (OwnR KI wx (w.heap.size) (.slice g7 D2.length d7) (D2)) ∧ Hid (Below w.heap.size w wx))
                      case first =>
                        as_aux_lemma =>
                          have Ic0 := I11.out.get 0 (.slice f7 F.length c7) rfl
                          have Ic1 := I11.out.get 1 (.slice g7 D2.length d7) rfl
                          have Ac2 := A11.out.get 2 (.int .i64 x.vm) rfl
                          have Ac9 := A11.out.get 9 (.int .i64 x.e.pg) rfl
                          have Ac4 := A11.out.get 4 (.int .i64 x.acc) rfl
                          go_wp2_with fail
                          refine (HPR.out _ (IE11.out) (ID11.out)).mono ?_
                          rintro e w12 ⟨rfl, hb12⟩
                          have hz12 := hb12.size
                          have P12 := Lib.hid (P11.out.below hb12)
                          have T12 := Lib.hid (T11.out.below hb12)
                          have A12 := Lib.hid (A11.out.below hb12)
                          have I12 := Lib.hid (I11.out.below hb12)
                          have X12 := Lib.hid (X11.out.below hb12)
                          have V12 := Lib.hid (V11.out.below hb12)
                          have Y12 := Lib.hid (Y11.out.below hb12)
                          have U12 := Lib.hid (U11.out.below hb12)
                          have TE12 := Lib.hid (TE11.out.below hb12)
                          have TD12 := Lib.hid (TD11.out.below hb12)
                          have IE12 := Lib.hid (IE11.out.below hb12)
                          have ID12 := Lib.hid (ID11.out.below hb12)
                          have B12 := Lib.hid (bel_trans B11.out hb12)
                          skip
                          have hs12 : g11 + 1 + 1 ≤ w12.heap.size := by omega
                          clear Ic0 Ic1 Ac2 Ac9 Ac4
                          clear P11 T11 A11 I11 X11 V11 Y11 U11 TE11 TD11 IE11 ID11 B11 hs11 hb12 hz12
                          go_upto_region 36 with ((with_reducible refine atStore 34 ?_); refine wpList_storeB rfl 34 _ _ rfl (g11) #[.int .i64 q1.k, .int .i64 q1.vm, .int .i64 q1.sp, .bool q1.al, .int .i64 q1.pg, .int .i64 q1.lv, .int .i64 q1.fr, .int .i64 q1.mi, .bool q1.t.r, .bool q1.t.w, .bool q1.t.x, .bool q1.t.a, .bool q1.t.n, .int .i64 q1.t.s] _ 34 rfl rfl (by kernel_rfl) (by rfl) (by simp [Value.oneCell']) Y12.out ?_)
                          have P13 := Lib.hid ((P12.out.row (cs' := #[.int .i64 q1.k, .int .i64 q1.vm, .int .i64 q1.sp, .bool q1.al, .int .i64 q1.pg, .int .i64 q1.lv, .int .i64 q1.fr, .int .i64 q1.mi, .bool q1.t.r, .bool q1.t.w, .bool q1.t.x, .bool q1.t.a, .bool q1.t.n, .int .i64 q1.t.s]) (show g1 ≠ g11 by omega)))
                          have T13 := Lib.hid ((T12.out.row (cs' := #[.int .i64 q1.k, .int .i64 q1.vm, .int .i64 q1.sp, .bool q1.al, .int .i64 q1.pg, .int .i64 q1.lv, .int .i64 q1.fr, .int .i64 q1.mi, .bool q1.t.r, .bool q1.t.w, .bool q1.t.x, .bool q1.t.a, .bool q1.t.n, .int .i64 q1.t.s]) (show g4 ≠ g11 by omega)))
                          have A13 := Lib.hid ((A12.out.row (cs' := #[.int .i64 q1.k, .int .i64 q1.vm, .int .i64 q1.sp, .bool q1.al, .int .i64 q1.pg, .int .i64 q1.lv, .int .i64 q1.fr, .int .i64 q1.mi, .bool q1.t.r, .bool q1.t.w, .bool q1.t.x, .bool q1.t.a, .bool q1.t.n, .int .i64 q1.t.s]) (show g5 ≠ g11 by omega)))
                          have I13 := Lib.hid ((I12.out.row (cs' := #[.int .i64 q1.k, .int .i64 q1.vm, .int .i64 q1.sp, .bool q1.al, .int .i64 q1.pg, .int .i64 q1.lv, .int .i64 q1.fr, .int .i64 q1.mi, .bool q1.t.r, .bool q1.t.w, .bool q1.t.x, .bool q1.t.a, .bool q1.t.n, .int .i64 q1.t.s]) (show g8 ≠ g11 by omega)))
                          have X13 := Lib.hid ((X12.out.row (cs' := #[.int .i64 q1.k, .int .i64 q1.vm, .int .i64 q1.sp, .bool q1.al, .int .i64 q1.pg, .int .i64 q1.lv, .int .i64 q1.fr, .int .i64 q1.mi, .bool q1.t.r, .bool q1.t.w, .bool q1.t.x, .bool q1.t.a, .bool q1.t.n, .int .i64 q1.t.s]) (show g9 ≠ g11 by omega)))
                          have V13 := Lib.hid ((V12.out.row (cs' := #[.int .i64 q1.k, .int .i64 q1.vm, .int .i64 q1.sp, .bool q1.al, .int .i64 q1.pg, .int .i64 q1.lv, .int .i64 q1.fr, .int .i64 q1.mi, .bool q1.t.r, .bool q1.t.w, .bool q1.t.x, .bool q1.t.a, .bool q1.t.n, .int .i64 q1.t.s]) (show g9 + 1 ≠ g11 by omega)))
                          have Y13 := Lib.hid ((Y12.out.put (cs' := #[.int .i64 q1.k, .int .i64 q1.vm, .int .i64 q1.sp, .bool q1.al, .int .i64 q1.pg, .int .i64 q1.lv, .int .i64 q1.fr, .int .i64 q1.mi, .bool q1.t.r, .bool q1.t.w, .bool q1.t.x, .bool q1.t.a, .bool q1.t.n, .int .i64 q1.t.s])))
                          have U13 := Lib.hid ((U12.out.row (cs' := #[.int .i64 q1.k, .int .i64 q1.vm, .int .i64 q1.sp, .bool q1.al, .int .i64 q1.pg, .int .i64 q1.lv, .int .i64 q1.fr, .int .i64 q1.mi, .bool q1.t.r, .bool q1.t.w, .bool q1.t.x, .bool q1.t.a, .bool q1.t.n, .int .i64 q1.t.s]) (show g11 + 1 ≠ g11 by omega)))
                          have TE13 := Lib.hid ((TE12.out.rowN (g := g11) (cs := #[.int .i64 q1.k, .int .i64 q1.vm, .int .i64 q1.sp, .bool q1.al, .int .i64 q1.pg, .int .i64 q1.lv, .int .i64 q1.fr, .int .i64 q1.mi, .bool q1.t.r, .bool q1.t.w, .bool q1.t.x, .bool q1.t.a, .bool q1.t.n, .int .i64 q1.t.s]) (fun he => absurd (HTE8.out _ he) (by first | omega | (simp; omega)))))
                          have TD13 := Lib.hid ((TD12.out.rowN (g := g11) (cs := #[.int .i64 q1.k, .int .i64 q1.vm, .int .i64 q1.sp, .bool q1.al, .int .i64 q1.pg, .int .i64 q1.lv, .int .i64 q1.fr, .int .i64 q1.mi, .bool q1.t.r, .bool q1.t.w, .bool q1.t.x, .bool q1.t.a, .bool q1.t.n, .int .i64 q1.t.s]) (TD12.out.ne_box Y12.out (by decide))))
                          have IE13 := Lib.hid ((IE12.out.rowN (g := g11) (cs := #[.int .i64 q1.k, .int .i64 q1.vm, .int .i64 q1.sp, .bool q1.al, .int .i64 q1.pg, .int .i64 q1.lv, .int .i64 q1.fr, .int .i64 q1.mi, .bool q1.t.r, .bool q1.t.w, .bool q1.t.x, .bool q1.t.a, .bool q1.t.n, .int .i64 q1.t.s]) (fun he => absurd (HIE8.out _ he) (by first | omega | (simp; omega)))))
                          have ID13 := Lib.hid ((ID12.out.rowN (g := g11) (cs := #[.int .i64 q1.k, .int .i64 q1.vm, .int .i64 q1.sp, .bool q1.al, .int .i64 q1.pg, .int .i64 q1.lv, .int .i64 q1.fr, .int .i64 q1.mi, .bool q1.t.r, .bool q1.t.w, .bool q1.t.x, .bool q1.t.a, .bool q1.t.n, .int .i64 q1.t.s]) (ID12.out.ne_box Y12.out (by decide))))
                          have B13 := Lib.hid ((Below.rowB (g := g11) B12.out (cs := #[.int .i64 q1.k, .int .i64 q1.vm, .int .i64 q1.sp, .bool q1.al, .int .i64 q1.pg, .int .i64 q1.lv, .int .i64 q1.fr, .int .i64 q1.mi, .bool q1.t.r, .bool q1.t.w, .bool q1.t.x, .bool q1.t.a, .bool q1.t.n, .int .i64 q1.t.s]) (show w.heap.size ≤ g11 by omega)))
                          obtain ⟨W13, hW13⟩ : ∃ W13, W13 = (w12).setRow (g11) #[.int .i64 q1.k, .int .i64 q1.vm, .int .i64 q1.sp, .bool q1.al, .int .i64 q1.pg, .int .i64 q1.lv, .int .i64 q1.fr, .int .i64 q1.mi, .bool q1.t.r, .bool q1.t.w, .bool q1.t.x, .bool q1.t.a, .bool q1.t.n, .int .i64 q1.t.s] := ⟨_, rfl⟩
                          have hs13 : g11 + 1 + 1 ≤ W13.heap.size := by rw [hW13]; first | exact hs12 | omega | (simp; omega)
                          rw [← hW13] at P13 T13 A13 I13 X13 V13 Y13 U13 TE13 TD13 IE13 ID13 B13 ⊢
                          clear hW13 P12 T12 A12 I12 X12 V12 Y12 U12 TE12 TD12 IE12 ID12 B12 hs12
                          cases isA
                          · go_wp2
                            go_meet
                            exact ⟨rfl, rfl, (by first | omega | (simp; done) | (simp; omega)), P13.out, T13.out, A13.out, I13.out, X13.out, V13.out, Y13.out, U13.out, TE13.out, TD13.out, IE13.out, ID13.out, B13.out⟩
                          have Ac4 := A13.out.get 4 (.int .i64 x.acc) rfl
                          go_wp2_with fail
                          refine (Kb4.out _).mono ?_
                          rintro e w14 ⟨rfl, rfl⟩
                          go_wp2
                          go_meet
                          exact ⟨rfl, rfl, (by first | omega | (simp; done) | (simp; omega)), P13.out, T13.out, A13.out, I13.out, X13.out, V13.out, Y13.out, U13.out, TE13.out, TD13.out, IE13.out, ID13.out, B13.out⟩
                      case rest =>
                      obtain ⟨rfl, rfl, hsq, Pq, Tq, Aq, Iq, Xq, Vq, Yq, Uq, TEq, TDq, IEq, IDq, Bq⟩ := hcut
                      clear P11 T11 A11 I11 X11 V11 Y11 U11 TE11 TD11 IE11 ID11 B11
                      as_aux_lemma =>
                        obtain ⟨isB, hisB⟩ : ∃ b9, b9 = (isA && b4) := ⟨_, rfl⟩
                        rw [← hisB]
                        have HisB := Lib.hid hisB
                        clear hisB
                        cases mt
                        · obtain ⟨hq1, hq2⟩ := Prod.mk.inj (HQ.out.trans (show firstR F D2 2 x.vm 0 x.e.pg x.acc = (ent0, 1) from by have h := HMT.out; exact no5 (by rw [← h]; rfl)))
                          subst hq2
                          have hne : eqE (⟨q1.k, q1.vm, q1.sp, q1.al, q1.pg, q1.lv, q1.fr, q1.mi, ⟨q1.t.r, q1.t.w, q1.t.x, q1.t.a, q1.t.n, q1.t.s⟩⟩ : Ety) (⟨0, 0, 0, false, 0, 0, 0, 0, ⟨false, false, false, false, false, 0⟩⟩ : Ety) = true := by show eqE q1 _ = true; rw [hq1]; exact eqE_self _
                          clear hq1
                          go_wp2_with (first | ((with_reducible refine atLoad 34 ?_); refine wpList_ldN rfl 34 _ rfl g11 (0) rfl #[.int .i64 q1.k, .int .i64 q1.vm, .int .i64 q1.sp, .bool q1.al, .int .i64 q1.pg, .int .i64 q1.lv, .int .i64 q1.fr, .int .i64 q1.mi, .bool q1.t.r, .bool q1.t.w, .bool q1.t.x, .bool q1.t.a, .bool q1.t.n, .int .i64 q1.t.s] Try.underlying34 rfl (by kernel_rfl) (Yq.out).all ?_) | ((with_reducible refine atLoad 34 ?_); refine wpList_ldN rfl 34 _ rfl (g11 + 1) (0) rfl #[.int .i64 0, .int .i64 0, .int .i64 0, .bool false, .int .i64 0, .int .i64 0, .int .i64 0, .int .i64 0, .bool false, .bool false, .bool false, .bool false, .bool false, .int .i64 0] Try.underlying34 rfl (by kernel_rfl) (Uq.out).all ?_))
                          go_meet
                          exact ⟨1, mZ, none, none, none, none, 0, 0, 0, 0, 0, 0, 0, 0, [], [], rfl, rfl, (by omega), (by first | omega | (simp; done) | (simp; omega)), ⟨Nat.zero_le _, Nat.zero_le _⟩, (fun j hj => by simp [Value.ownBlock] at hj), (fun j hj => by simp [Value.ownBlock] at hj), Pq.out, Tq.out, Iq.out, Xq.out, Vq.out, TEq.out, TDq.out, IEq.out, IDq.out, OwnR.nil _ _, OwnR.nil _ _, OwnR.nil _ _, OwnR.nil _ _, Bq.out⟩
                        have HIS := Lib.hid (show is5 x.vm x.e.pg x.acc = isB from by rw [HisB.out, HisA.out, Hb1.out, Hb2.out, Hb4.out]; rfl)
                        cases isB
                        · obtain ⟨hq1, hq2⟩ := Prod.mk.inj (HQ.out.trans (show firstR F D2 2 x.vm 0 x.e.pg x.acc = (ent0, 1) from by have h := HIS.out; exact no5 (by rw [h, Bool.and_false])))
                          subst hq2
                          have hne : eqE (⟨q1.k, q1.vm, q1.sp, q1.al, q1.pg, q1.lv, q1.fr, q1.mi, ⟨q1.t.r, q1.t.w, q1.t.x, q1.t.a, q1.t.n, q1.t.s⟩⟩ : Ety) (⟨0, 0, 0, false, 0, 0, 0, 0, ⟨false, false, false, false, false, 0⟩⟩ : Ety) = true := by show eqE q1 _ = true; rw [hq1]; exact eqE_self _
                          clear hq1
                          go_wp2_with (first | ((with_reducible refine atLoad 34 ?_); refine wpList_ldN rfl 34 _ rfl g11 (0) rfl #[.int .i64 q1.k, .int .i64 q1.vm, .int .i64 q1.sp, .bool q1.al, .int .i64 q1.pg, .int .i64 q1.lv, .int .i64 q1.fr, .int .i64 q1.mi, .bool q1.t.r, .bool q1.t.w, .bool q1.t.x, .bool q1.t.a, .bool q1.t.n, .int .i64 q1.t.s] Try.underlying34 rfl (by kernel_rfl) (Yq.out).all ?_) | ((with_reducible refine atLoad 34 ?_); refine wpList_ldN rfl 34 _ rfl (g11 + 1) (0) rfl #[.int .i64 0, .int .i64 0, .int .i64 0, .bool false, .int .i64 0, .int .i64 0, .int .i64 0, .int .i64 0, .bool false, .bool false, .bool false, .bool false, .bool false, .int .i64 0] Try.underlying34 rfl (by kernel_rfl) (Uq.out).all ?_))
                          go_meet
                          exact ⟨1, mZ, none, none, none, none, 0, 0, 0, 0, 0, 0, 0, 0, [], [], rfl, rfl, (by omega), (by first | omega | (simp; done) | (simp; omega)), ⟨Nat.zero_le _, Nat.zero_le _⟩, (fun j hj => by simp [Value.ownBlock] at hj), (fun j hj => by simp [Value.ownBlock] at hj), Pq.out, Tq.out, Iq.out, Xq.out, Vq.out, TEq.out, TDq.out, IEq.out, IDq.out, OwnR.nil _ _, OwnR.nil _ _, OwnR.nil _ _, OwnR.nil _ _, Bq.out⟩
                        rcases look5 (E := F) (D := D2) (by have h := HMT.out; exact h.symm) HIS.out with ⟨hpl, hrs⟩ | ⟨j, ye, hj, hpl, hrs⟩
                        rotate_left
                        · as_aux_lemma =>
                            obtain ⟨gb, rfl, hgb1, hgb2, hgb3⟩ := (TEq.out).there (show 0 < tl from by have h1 := HTL.out; have h2 := (List.getElem?_eq_some_iff.1 hj).1; omega)
                            clear hgb3
                            have hgbz : gb < mZ := HTE8.out gb rfl
                            have hjl : j < tl := by have h1 := HTL.out; have h2 := (List.getElem?_eq_some_iff.1 hj).1; omega
                            have hj0 : decide ((0 : Int) ≤ (j : Int)) = true := decide_eq_true (by omega)
                            have HJ := Lib.hid hj
                            clear hj
                            obtain ⟨hq1, hq2⟩ := Prod.mk.inj (HQ.out.trans (show firstR F D2 2 x.vm 0 x.e.pg x.acc = (ye, 0) from by exact hrs))
                            subst hq2
                            have hne : eqE (⟨q1.k, q1.vm, q1.sp, q1.al, q1.pg, q1.lv, q1.fr, q1.mi, ⟨q1.t.r, q1.t.w, q1.t.x, q1.t.a, q1.t.n, q1.t.s⟩⟩ : Ety) (⟨ye.k, ye.vm, ye.sp, ye.al, ye.pg, ye.lv, ye.fr, ye.mi, ⟨ye.t.r, ye.t.w, ye.t.x, ye.t.a, ye.t.n, ye.t.s⟩⟩ : Ety) = true := by show eqE q1 _ = true; rw [hq1]; exact eqE_self _
                            clear hq1
                            clear hrs
                            have hat := fun W (hE : OwnR KE W w.heap.size (.slice (some ⟨gb, 0, none⟩) tl tc) F) (hD : OwnR KI W w.heap.size (.slice tg tm td) D2) => mid9_any (some ⟨gb, 0, none⟩) tg tl tc tm td F x.vm x.e.pg x.acc W hE.rows.2 hE.rows.1 (by omega)
                            rw [hpl] at hat
                            have HAT := Lib.hid hat
                            clear hat hpl
                            have Tc0 := Tq.out.get 0 (.slice (some ⟨gb, 0, none⟩) tl tc) rfl
                            have Tc1 := Tq.out.get 1 (.slice tg tm td) rfl
                            have Ac2 := Aq.out.get 2 (.int .i64 x.vm) rfl
                            have Ac9 := Aq.out.get 9 (.int .i64 x.e.pg) rfl
                            have Ac4 := Aq.out.get 4 (.int .i64 x.acc) rfl
                            go_wp2_with fail
                            refine (HAT.out _ (TEq.out) (TDq.out)).mono ?_
                            rintro e w12 ⟨rfl, hb12⟩
                            have hz12 := hb12.size
                            have P12 := Lib.hid (Pq.out.below hb12)
                            have T12 := Lib.hid (Tq.out.below hb12)
                            have A12 := Lib.hid (Aq.out.below hb12)
                            have I12 := Lib.hid (Iq.out.below hb12)
                            have X12 := Lib.hid (Xq.out.below hb12)
                            have V12 := Lib.hid (Vq.out.below hb12)
                            have Y12 := Lib.hid (Yq.out.below hb12)
                            have U12 := Lib.hid (Uq.out.below hb12)
                            have TE12 := Lib.hid (TEq.out.below hb12)
                            have TD12 := Lib.hid (TDq.out.below hb12)
                            have IE12 := Lib.hid (IEq.out.below hb12)
                            have ID12 := Lib.hid (IDq.out.below hb12)
                            have B12 := Lib.hid (bel_trans Bq.out hb12)
                            skip
                            have hs12 : g11 + 1 + 1 ≤ w12.heap.size := by omega
                            clear Tc0 Tc1 Ac2 Ac9 Ac4
                            clear Pq Tq Aq Iq Xq Vq Yq Uq TEq TDq IEq IDq Bq hb12 hz12
                            go_upto_region 50 with fail
                            have HRT := Lib.hid (show RowAt w12 gb (0 + j * 14) 14 #[.int .i64 ye.k, .int .i64 ye.vm, .int .i64 ye.sp, .bool ye.al, .int .i64 ye.pg, .int .i64 ye.lv, .int .i64 ye.fr, .int .i64 ye.mi, .bool ye.t.r, .bool ye.t.w, .bool ye.t.x, .bool ye.t.a, .bool ye.t.n, .int .i64 ye.t.s] from own_row (TE12.out) HJ.out)
                            go_upto_region 50 with fail
                            refine wp_region_held_drew (S := (fun w' => BoxAt w' (g4) #[.slice (some ⟨gb, 0, none⟩) tl tc, .slice tg tm td] 25 ∧ RowAt w' (gb) (0 + j * 14) 14 #[.int .i64 ye.k, .int .i64 ye.vm, .int .i64 ye.sp, .bool ye.al, .int .i64 ye.pg, .int .i64 ye.lv, .int .i64 ye.fr, .int .i64 ye.mi, .bool ye.t.r, .bool ye.t.w, .bool ye.t.x, .bool ye.t.a, .bool ye.t.n, .int .i64 ye.t.s])) (by kernel_rfl) ⟨T12.out.drew, HRT.out.drew⟩ (fun hS => ?_)
                            refine tkR 0 207 (v := .pointer (some ⟨g4, 0, none⟩)) rfl hS (fun _ _ => by kernel_rfl) ?_
                            refine tkR 1 208 (v := .slice (some ⟨gb, 0, none⟩) tl tc) rfl hS (fun _ h => run_ld1 22 (.tmp 207) g4 0 (by kernel_rfl) (by kernel_rfl) Try.underlying22 rfl ((h.1).get 0 (.slice (some ⟨gb, 0, none⟩) tl tc) rfl)) ?_
                            refine tkR 2 209 (v := .int .i64 j) rfl hS (fun _ _ => by kernel_rfl) ?_
                            refine tkR 3 210 (v := .pointer (some ⟨gb, 0 + j * 14, none⟩)) rfl hS (fun _ _ => run_ixN 22 34 (.tmp 208) (.tmp 209) gb 0 tl tc j 14 (by kernel_rfl) (by kernel_rfl) (by kernel_rfl) Try.underlying22 (by kernel_rfl) hjl) ?_
                            refine tkR 4 211 (v := .agg #[.int .i64 ye.k, .int .i64 ye.vm, .int .i64 ye.sp, .bool ye.al, .int .i64 ye.pg, .int .i64 ye.lv, .int .i64 ye.fr, .int .i64 ye.mi, .bool ye.t.r, .bool ye.t.w, .bool ye.t.x, .bool ye.t.a, .bool ye.t.n, .int .i64 ye.t.s]) rfl hS (fun _ h => run_ldN 34 (.tmp 210) gb (0 + j * 14) (by kernel_rfl) (by kernel_rfl) Try.underlying34 rfl (by kernel_rfl) ((h.2).sub 0 _ rfl (Nat.le_of_ble_eq_true rfl))) ?_
                            refine tkR 5 8 (v := .int .i64 0) rfl hS (fun _ _ => by kernel_rfl) ?_
                            try simp only [Act.put, List.setIfInBounds_toArray, List.set_cons_zero, List.set_cons_succ]
                            refine wpAnyH_ready (rs := [6]) (by kernel_rfl) (by simp) ?_
                            refine AllReadyH.cons (o := ⟨none, _, _, _, _, _⟩) rfl (fun K hK => ?_) AllReadyH.nil
                            refine step_storeB rfl 34 _ _ rfl _ _ _ 34 rfl rfl (by kernel_rfl) (by rfl) (by simp [Value.oneCell']) (U12.out.drew) ?_
                            refine hK.out _ _ ?_ (fun hS' => ?_)
                            · exact ⟨hS.1.row (show g4 ≠ g11 + 1 by omega), hS.2.row (show gb ≠ g11 + 1 by omega)⟩
                            clear hK K hS
                            have hS := hS'
                            clear hS'
                            try simp only [Act.put]
                            refine wpAnyH_done (by kernel_rfl) ?_ _
                            try simp only [Act.put, List.setIfInBounds_toArray, List.set_cons_zero, List.set_cons_succ]
                            have P13 := Lib.hid (((P12.out.drew).row (cs' := #[.int .i64 ye.k, .int .i64 ye.vm, .int .i64 ye.sp, .bool ye.al, .int .i64 ye.pg, .int .i64 ye.lv, .int .i64 ye.fr, .int .i64 ye.mi, .bool ye.t.r, .bool ye.t.w, .bool ye.t.x, .bool ye.t.a, .bool ye.t.n, .int .i64 ye.t.s]) (show g1 ≠ g11 + 1 by omega)))
                            have T13 := Lib.hid (((T12.out.drew).row (cs' := #[.int .i64 ye.k, .int .i64 ye.vm, .int .i64 ye.sp, .bool ye.al, .int .i64 ye.pg, .int .i64 ye.lv, .int .i64 ye.fr, .int .i64 ye.mi, .bool ye.t.r, .bool ye.t.w, .bool ye.t.x, .bool ye.t.a, .bool ye.t.n, .int .i64 ye.t.s]) (show g4 ≠ g11 + 1 by omega)))
                            have A13 := Lib.hid (((A12.out.drew).row (cs' := #[.int .i64 ye.k, .int .i64 ye.vm, .int .i64 ye.sp, .bool ye.al, .int .i64 ye.pg, .int .i64 ye.lv, .int .i64 ye.fr, .int .i64 ye.mi, .bool ye.t.r, .bool ye.t.w, .bool ye.t.x, .bool ye.t.a, .bool ye.t.n, .int .i64 ye.t.s]) (show g5 ≠ g11 + 1 by omega)))
                            have I13 := Lib.hid (((I12.out.drew).row (cs' := #[.int .i64 ye.k, .int .i64 ye.vm, .int .i64 ye.sp, .bool ye.al, .int .i64 ye.pg, .int .i64 ye.lv, .int .i64 ye.fr, .int .i64 ye.mi, .bool ye.t.r, .bool ye.t.w, .bool ye.t.x, .bool ye.t.a, .bool ye.t.n, .int .i64 ye.t.s]) (show g8 ≠ g11 + 1 by omega)))
                            have X13 := Lib.hid (((X12.out.drew).row (cs' := #[.int .i64 ye.k, .int .i64 ye.vm, .int .i64 ye.sp, .bool ye.al, .int .i64 ye.pg, .int .i64 ye.lv, .int .i64 ye.fr, .int .i64 ye.mi, .bool ye.t.r, .bool ye.t.w, .bool ye.t.x, .bool ye.t.a, .bool ye.t.n, .int .i64 ye.t.s]) (show g9 ≠ g11 + 1 by omega)))
                            have V13 := Lib.hid (((V12.out.drew).row (cs' := #[.int .i64 ye.k, .int .i64 ye.vm, .int .i64 ye.sp, .bool ye.al, .int .i64 ye.pg, .int .i64 ye.lv, .int .i64 ye.fr, .int .i64 ye.mi, .bool ye.t.r, .bool ye.t.w, .bool ye.t.x, .bool ye.t.a, .bool ye.t.n, .int .i64 ye.t.s]) (show g9 + 1 ≠ g11 + 1 by omega)))
                            have Y13 := Lib.hid (((Y12.out.drew).row (cs' := #[.int .i64 ye.k, .int .i64 ye.vm, .int .i64 ye.sp, .bool ye.al, .int .i64 ye.pg, .int .i64 ye.lv, .int .i64 ye.fr, .int .i64 ye.mi, .bool ye.t.r, .bool ye.t.w, .bool ye.t.x, .bool ye.t.a, .bool ye.t.n, .int .i64 ye.t.s]) (show g11 ≠ g11 + 1 by omega)))
                            have U13 := Lib.hid (((U12.out.drew).put (cs' := #[.int .i64 ye.k, .int .i64 ye.vm, .int .i64 ye.sp, .bool ye.al, .int .i64 ye.pg, .int .i64 ye.lv, .int .i64 ye.fr, .int .i64 ye.mi, .bool ye.t.r, .bool ye.t.w, .bool ye.t.x, .bool ye.t.a, .bool ye.t.n, .int .i64 ye.t.s])))
                            have TE13 := Lib.hid (((TE12.out.drew).rowN (g := g11 + 1) (cs := #[.int .i64 ye.k, .int .i64 ye.vm, .int .i64 ye.sp, .bool ye.al, .int .i64 ye.pg, .int .i64 ye.lv, .int .i64 ye.fr, .int .i64 ye.mi, .bool ye.t.r, .bool ye.t.w, .bool ye.t.x, .bool ye.t.a, .bool ye.t.n, .int .i64 ye.t.s]) (fun he => absurd (HTE8.out _ he) (by first | omega | (simp; omega)))))
                            have TD13 := Lib.hid (((TD12.out.drew).rowN (g := g11 + 1) (cs := #[.int .i64 ye.k, .int .i64 ye.vm, .int .i64 ye.sp, .bool ye.al, .int .i64 ye.pg, .int .i64 ye.lv, .int .i64 ye.fr, .int .i64 ye.mi, .bool ye.t.r, .bool ye.t.w, .bool ye.t.x, .bool ye.t.a, .bool ye.t.n, .int .i64 ye.t.s]) (TD12.out.ne_box U12.out (by decide))))
                            have IE13 := Lib.hid (((IE12.out.drew).rowN (g := g11 + 1) (cs := #[.int .i64 ye.k, .int .i64 ye.vm, .int .i64 ye.sp, .bool ye.al, .int .i64 ye.pg, .int .i64 ye.lv, .int .i64 ye.fr, .int .i64 ye.mi, .bool ye.t.r, .bool ye.t.w, .bool ye.t.x, .bool ye.t.a, .bool ye.t.n, .int .i64 ye.t.s]) (fun he => absurd (HIE8.out _ he) (by first | omega | (simp; omega)))))
                            have ID13 := Lib.hid (((ID12.out.drew).rowN (g := g11 + 1) (cs := #[.int .i64 ye.k, .int .i64 ye.vm, .int .i64 ye.sp, .bool ye.al, .int .i64 ye.pg, .int .i64 ye.lv, .int .i64 ye.fr, .int .i64 ye.mi, .bool ye.t.r, .bool ye.t.w, .bool ye.t.x, .bool ye.t.a, .bool ye.t.n, .int .i64 ye.t.s]) (ID12.out.ne_box U12.out (by decide))))
                            have B13 := Lib.hid ((Below.rowB (g := g11 + 1) (Below.drew B12.out) (cs := #[.int .i64 ye.k, .int .i64 ye.vm, .int .i64 ye.sp, .bool ye.al, .int .i64 ye.pg, .int .i64 ye.lv, .int .i64 ye.fr, .int .i64 ye.mi, .bool ye.t.r, .bool ye.t.w, .bool ye.t.x, .bool ye.t.a, .bool ye.t.n, .int .i64 ye.t.s]) (show w.heap.size ≤ g11 + 1 by omega)))
                            obtain ⟨W13, hW13⟩ : ∃ W13, W13 = ((w12).drew).setRow (g11 + 1) #[.int .i64 ye.k, .int .i64 ye.vm, .int .i64 ye.sp, .bool ye.al, .int .i64 ye.pg, .int .i64 ye.lv, .int .i64 ye.fr, .int .i64 ye.mi, .bool ye.t.r, .bool ye.t.w, .bool ye.t.x, .bool ye.t.a, .bool ye.t.n, .int .i64 ye.t.s] := ⟨_, rfl⟩
                            have hs13 : g11 + 1 + 1 ≤ W13.heap.size := by rw [hW13]; first | exact hs12 | omega | (simp; omega)
                            rw [← hW13] at P13 T13 A13 I13 X13 V13 Y13 U13 TE13 TD13 IE13 ID13 B13 ⊢
                            clear hW13 P12 T12 A12 I12 X12 V12 Y12 U12 TE12 TD12 IE12 ID12 B12 hs12
                            go_wp2_with (first | ((with_reducible refine atLoad 34 ?_); refine wpList_ldN rfl 34 _ rfl g11 (0) rfl #[.int .i64 q1.k, .int .i64 q1.vm, .int .i64 q1.sp, .bool q1.al, .int .i64 q1.pg, .int .i64 q1.lv, .int .i64 q1.fr, .int .i64 q1.mi, .bool q1.t.r, .bool q1.t.w, .bool q1.t.x, .bool q1.t.a, .bool q1.t.n, .int .i64 q1.t.s] Try.underlying34 rfl (by kernel_rfl) (Y13.out).all ?_) | ((with_reducible refine atLoad 34 ?_); refine wpList_ldN rfl 34 _ rfl (g11 + 1) (0) rfl #[.int .i64 ye.k, .int .i64 ye.vm, .int .i64 ye.sp, .bool ye.al, .int .i64 ye.pg, .int .i64 ye.lv, .int .i64 ye.fr, .int .i64 ye.mi, .bool ye.t.r, .bool ye.t.w, .bool ye.t.x, .bool ye.t.a, .bool ye.t.n, .int .i64 ye.t.s] Try.underlying34 rfl (by kernel_rfl) (U13.out).all ?_))
                            go_meet
                            exact ⟨0, mZ, none, none, none, none, 0, 0, 0, 0, 0, 0, 0, 0, [], [], rfl, rfl, (by omega), (by first | omega | (simp; done) | (simp; omega)), ⟨Nat.zero_le _, Nat.zero_le _⟩, (fun j hj => by simp [Value.ownBlock] at hj), (fun j hj => by simp [Value.ownBlock] at hj), P13.out, T13.out, I13.out, X13.out, V13.out, TE13.out, TD13.out, IE13.out, ID13.out, OwnR.nil _ _, OwnR.nil _ _, OwnR.nil _ _, OwnR.nil _ _, B13.out⟩
                        · as_aux_lemma =>
                            obtain ⟨hq1, hq2⟩ := Prod.mk.inj (HQ.out.trans (show firstR F D2 2 x.vm 0 x.e.pg x.acc = (ent0, 3) from by exact hrs))
                            subst hq2
                            have hne : eqE (⟨q1.k, q1.vm, q1.sp, q1.al, q1.pg, q1.lv, q1.fr, q1.mi, ⟨q1.t.r, q1.t.w, q1.t.x, q1.t.a, q1.t.n, q1.t.s⟩⟩ : Ety) (⟨0, 0, 0, false, 0, 0, 0, 0, ⟨false, false, false, false, false, 0⟩⟩ : Ety) = true := by show eqE q1 _ = true; rw [hq1]; exact eqE_self _
                            clear hq1
                            clear hrs
                            have hat := fun W (hE : OwnR KE W w.heap.size (.slice tf tl tc) F) (hD : OwnR KI W w.heap.size (.slice tg tm td) D2) => mid9_any tf tg tl tc tm td F x.vm x.e.pg x.acc W hE.rows.2 hE.rows.1 (by omega)
                            rw [hpl] at hat
                            have HAT := Lib.hid hat
                            clear hat hpl
                            have Tc0 := Tq.out.get 0 (.slice tf tl tc) rfl
                            have Tc1 := Tq.out.get 1 (.slice tg tm td) rfl
                            have Ac2 := Aq.out.get 2 (.int .i64 x.vm) rfl
                            have Ac9 := Aq.out.get 9 (.int .i64 x.e.pg) rfl
                            have Ac4 := Aq.out.get 4 (.int .i64 x.acc) rfl
                            go_wp2_with fail
                            refine (HAT.out _ (TEq.out) (TDq.out)).mono ?_
                            rintro e w12 ⟨rfl, hb12⟩
                            have hz12 := hb12.size
                            have P12 := Lib.hid (Pq.out.below hb12)
                            have T12 := Lib.hid (Tq.out.below hb12)
                            have A12 := Lib.hid (Aq.out.below hb12)
                            have I12 := Lib.hid (Iq.out.below hb12)
                            have X12 := Lib.hid (Xq.out.below hb12)
                            have V12 := Lib.hid (Vq.out.below hb12)
                            have Y12 := Lib.hid (Yq.out.below hb12)
                            have U12 := Lib.hid (Uq.out.below hb12)
                            have TE12 := Lib.hid (TEq.out.below hb12)
                            have TD12 := Lib.hid (TDq.out.below hb12)
                            have IE12 := Lib.hid (IEq.out.below hb12)
                            have ID12 := Lib.hid (IDq.out.below hb12)
                            have B12 := Lib.hid (bel_trans Bq.out hb12)
                            skip
                            have hs12 : g11 + 1 + 1 ≤ w12.heap.size := by omega
                            clear Tc0 Tc1 Ac2 Ac9 Ac4
                            clear Pq Tq Aq Iq Xq Vq Yq Uq TEq TDq IEq IDq Bq hb12 hz12
                            go_wp2_with (first | ((with_reducible refine atLoad 34 ?_); refine wpList_ldN rfl 34 _ rfl g11 (0) rfl #[.int .i64 q1.k, .int .i64 q1.vm, .int .i64 q1.sp, .bool q1.al, .int .i64 q1.pg, .int .i64 q1.lv, .int .i64 q1.fr, .int .i64 q1.mi, .bool q1.t.r, .bool q1.t.w, .bool q1.t.x, .bool q1.t.a, .bool q1.t.n, .int .i64 q1.t.s] Try.underlying34 rfl (by kernel_rfl) (Y12.out).all ?_) | ((with_reducible refine atLoad 34 ?_); refine wpList_ldN rfl 34 _ rfl (g11 + 1) (0) rfl #[.int .i64 0, .int .i64 0, .int .i64 0, .bool false, .int .i64 0, .int .i64 0, .int .i64 0, .int .i64 0, .bool false, .bool false, .bool false, .bool false, .bool false, .int .i64 0] Try.underlying34 rfl (by kernel_rfl) (U12.out).all ?_))
                            go_meet
                            exact ⟨3, mZ, none, none, none, none, 0, 0, 0, 0, 0, 0, 0, 0, [], [], rfl, rfl, (by omega), (by first | omega | (simp; done) | (simp; omega)), ⟨Nat.zero_le _, Nat.zero_le _⟩, (fun j hj => by simp [Value.ownBlock] at hj), (fun j hj => by simp [Value.ownBlock] at hj), P12.out, T12.out, I12.out, X12.out, V12.out, TE12.out, TD12.out, IE12.out, ID12.out, OwnR.nil _ _, OwnR.nil _ _, OwnR.nil _ _, OwnR.nil _ _, B12.out⟩
                  by_cases h6 : dd = 6
                  · as_aux_lemma =>
                      obtain rfl : dd = 6 := h6
                      obtain ⟨q1, q2, hq⟩ : ∃ q1 q2, (q1, q2) = deepR F D2 x.vm x.sp x.e.pg := ⟨_, _, rfl⟩
                      have hpr := fun W (hE : OwnR KE W w.heap.size (.slice f7 F.length c7) F) (hD : OwnR KI W w.heap.size (.slice g7 D2.length d7) D2) => walkO w.heap.size f7 g7 F.length c7 D2.length d7 F D2 x.vm x.sp x.e.pg W hE hD (by omega) (by omega)
                      rw [← hq] at hpr
                      simp only [entV, entC] at hpr
                      have HPR := Lib.hid hpr
                      have HQ := Lib.hid hq
                      clear hpr hq
                      obtain ⟨b1, hb1⟩ : ∃ b9, b9 = numB x.vm 15 := ⟨_, rfl⟩
                      have kb1 := fun W => tag9_any x.vm W
                      rw [← hb1] at kb1
                      have Kb1 := Lib.hid kb1
                      have Hb1 := Lib.hid hb1
                      clear kb1 hb1
                      obtain ⟨b2, hb2⟩ : ∃ b9, b9 = numB x.e.pg 4095 := ⟨_, rfl⟩
                      have kb2 := fun W => page_any x.e.pg W
                      rw [← hb2] at kb2
                      have Kb2 := Lib.hid kb2
                      have Hb2 := Lib.hid hb2
                      clear kb2 hb2
                      obtain ⟨b3, hb3⟩ : ∃ b9, b9 = numB x.sp 15 := ⟨_, rfl⟩
                      have kb3 := fun W => tag9_any x.sp W
                      rw [← hb3] at kb3
                      have Kb3 := Lib.hid kb3
                      have Hb3 := Lib.hid hb3
                      clear kb3 hb3
                      have HTL := Lib.hid ((TE9.out).rows.1)
                      go_upto_region 28 with fail
                      have P11 := Lib.hid (((P9.out.alloc (.cells #[.int .i64 0, .int .i64 0, .int .i64 0, .bool false, .int .i64 0, .int .i64 0, .int .i64 0, .int .i64 0, .bool false, .bool false, .bool false, .bool false, .bool false, .int .i64 0] 34)).alloc (.cells #[.int .i64 0, .int .i64 0, .int .i64 0, .bool false, .int .i64 0, .int .i64 0, .int .i64 0, .int .i64 0, .bool false, .bool false, .bool false, .bool false, .bool false, .int .i64 0] 34)))
                      have T11 := Lib.hid (((T9.out.alloc (.cells #[.int .i64 0, .int .i64 0, .int .i64 0, .bool false, .int .i64 0, .int .i64 0, .int .i64 0, .int .i64 0, .bool false, .bool false, .bool false, .bool false, .bool false, .int .i64 0] 34)).alloc (.cells #[.int .i64 0, .int .i64 0, .int .i64 0, .bool false, .int .i64 0, .int .i64 0, .int .i64 0, .int .i64 0, .bool false, .bool false, .bool false, .bool false, .bool false, .int .i64 0] 34)))
                      have A11 := Lib.hid (((A9.out.alloc (.cells #[.int .i64 0, .int .i64 0, .int .i64 0, .bool false, .int .i64 0, .int .i64 0, .int .i64 0, .int .i64 0, .bool false, .bool false, .bool false, .bool false, .bool false, .int .i64 0] 34)).alloc (.cells #[.int .i64 0, .int .i64 0, .int .i64 0, .bool false, .int .i64 0, .int .i64 0, .int .i64 0, .int .i64 0, .bool false, .bool false, .bool false, .bool false, .bool false, .int .i64 0] 34)))
                      have I11 := Lib.hid (((I9.out.alloc (.cells #[.int .i64 0, .int .i64 0, .int .i64 0, .bool false, .int .i64 0, .int .i64 0, .int .i64 0, .int .i64 0, .bool false, .bool false, .bool false, .bool false, .bool false, .int .i64 0] 34)).alloc (.cells #[.int .i64 0, .int .i64 0, .int .i64 0, .bool false, .int .i64 0, .int .i64 0, .int .i64 0, .int .i64 0, .bool false, .bool false, .bool false, .bool false, .bool false, .int .i64 0] 34)))
                      have X11 := Lib.hid (((X9.out.alloc (.cells #[.int .i64 0, .int .i64 0, .int .i64 0, .bool false, .int .i64 0, .int .i64 0, .int .i64 0, .int .i64 0, .bool false, .bool false, .bool false, .bool false, .bool false, .int .i64 0] 34)).alloc (.cells #[.int .i64 0, .int .i64 0, .int .i64 0, .bool false, .int .i64 0, .int .i64 0, .int .i64 0, .int .i64 0, .bool false, .bool false, .bool false, .bool false, .bool false, .int .i64 0] 34)))
                      have V11 := Lib.hid (((V9.out.alloc (.cells #[.int .i64 0, .int .i64 0, .int .i64 0, .bool false, .int .i64 0, .int .i64 0, .int .i64 0, .int .i64 0, .bool false, .bool false, .bool false, .bool false, .bool false, .int .i64 0] 34)).alloc (.cells #[.int .i64 0, .int .i64 0, .int .i64 0, .bool false, .int .i64 0, .int .i64 0, .int .i64 0, .int .i64 0, .bool false, .bool false, .bool false, .bool false, .bool false, .int .i64 0] 34)))
                      have Y11 := Lib.hid (((BoxAt.newAt (W9) #[.int .i64 0, .int .i64 0, .int .i64 0, .bool false, .int .i64 0, .int .i64 0, .int .i64 0, .int .i64 0, .bool false, .bool false, .bool false, .bool false, .bool false, .int .i64 0] 34 (W9.heap.size) (by first | omega | (simp; done) | (simp; omega))).alloc (.cells #[.int .i64 0, .int .i64 0, .int .i64 0, .bool false, .int .i64 0, .int .i64 0, .int .i64 0, .int .i64 0, .bool false, .bool false, .bool false, .bool false, .bool false, .int .i64 0] 34)))
                      have U11 := Lib.hid ((BoxAt.newAt ((W9).alloc (.cells #[.int .i64 0, .int .i64 0, .int .i64 0, .bool false, .int .i64 0, .int .i64 0, .int .i64 0, .int .i64 0, .bool false, .bool false, .bool false, .bool false, .bool false, .int .i64 0] 34)) #[.int .i64 0, .int .i64 0, .int .i64 0, .bool false, .int .i64 0, .int .i64 0, .int .i64 0, .int .i64 0, .bool false, .bool false, .bool false, .bool false, .bool false, .int .i64 0] 34 (W9.heap.size + 1) (by first | omega | (simp; done) | (simp; omega))))
                      have TE11 := Lib.hid (((TE9.out.alloc (.cells #[.int .i64 0, .int .i64 0, .int .i64 0, .bool false, .int .i64 0, .int .i64 0, .int .i64 0, .int .i64 0, .bool false, .bool false, .bool false, .bool false, .bool false, .int .i64 0] 34)).alloc (.cells #[.int .i64 0, .int .i64 0, .int .i64 0, .bool false, .int .i64 0, .int .i64 0, .int .i64 0, .int .i64 0, .bool false, .bool false, .bool false, .bool false, .bool false, .int .i64 0] 34)))
                      have TD11 := Lib.hid (((TD9.out.alloc (.cells #[.int .i64 0, .int .i64 0, .int .i64 0, .bool false, .int .i64 0, .int .i64 0, .int .i64 0, .int .i64 0, .bool false, .bool false, .bool false, .bool false, .bool false, .int .i64 0] 34)).alloc (.cells #[.int .i64 0, .int .i64 0, .int .i64 0, .bool false, .int .i64 0, .int .i64 0, .int .i64 0, .int .i64 0, .bool false, .bool false, .bool false, .bool false, .bool false, .int .i64 0] 34)))
                      have IE11 := Lib.hid (((IE9.out.alloc (.cells #[.int .i64 0, .int .i64 0, .int .i64 0, .bool false, .int .i64 0, .int .i64 0, .int .i64 0, .int .i64 0, .bool false, .bool false, .bool false, .bool false, .bool false, .int .i64 0] 34)).alloc (.cells #[.int .i64 0, .int .i64 0, .int .i64 0, .bool false, .int .i64 0, .int .i64 0, .int .i64 0, .int .i64 0, .bool false, .bool false, .bool false, .bool false, .bool false, .int .i64 0] 34)))
                      have ID11 := Lib.hid (((ID9.out.alloc (.cells #[.int .i64 0, .int .i64 0, .int .i64 0, .bool false, .int .i64 0, .int .i64 0, .int .i64 0, .int .i64 0, .bool false, .bool false, .bool false, .bool false, .bool false, .int .i64 0] 34)).alloc (.cells #[.int .i64 0, .int .i64 0, .int .i64 0, .bool false, .int .i64 0, .int .i64 0, .int .i64 0, .int .i64 0, .bool false, .bool false, .bool false, .bool false, .bool false, .int .i64 0] 34)))
                      have B11 := Lib.hid ((bel_alloc (bel_alloc B9.out (.cells #[.int .i64 0, .int .i64 0, .int .i64 0, .bool false, .int .i64 0, .int .i64 0, .int .i64 0, .int .i64 0, .bool false, .bool false, .bool false, .bool false, .bool false, .int .i64 0] 34)) (.cells #[.int .i64 0, .int .i64 0, .int .i64 0, .bool false, .int .i64 0, .int .i64 0, .int .i64 0, .int .i64 0, .bool false, .bool false, .bool false, .bool false, .bool false, .int .i64 0] 34)))
                      obtain ⟨g11, hg11⟩ : ∃ g11, g11 = W9.heap.size := ⟨_, rfl⟩
                      obtain ⟨W11, hW11⟩ : ∃ W11, W11 = ((W9).alloc (.cells #[.int .i64 0, .int .i64 0, .int .i64 0, .bool false, .int .i64 0, .int .i64 0, .int .i64 0, .int .i64 0, .bool false, .bool false, .bool false, .bool false, .bool false, .int .i64 0] 34)).alloc (.cells #[.int .i64 0, .int .i64 0, .int .i64 0, .bool false, .int .i64 0, .int .i64 0, .int .i64 0, .int .i64 0, .bool false, .bool false, .bool false, .bool false, .bool false, .int .i64 0] 34) := ⟨_, rfl⟩
                      have hs11 : g11 + 1 + 1 ≤ W11.heap.size := by rw [hW11, hg11]; simp
                      rw [← hW11] at P11 T11 A11 I11 X11 V11 Y11 U11 TE11 TD11 IE11 ID11 B11 ⊢
                      have hb11 : mZ ≤ g11 := by omega
                      rw [← hg11] at Y11 U11 ⊢
                      clear hg11
                      clear hW11 P9 T9 A9 I9 X9 V9 TE9 TD9 IE9 ID9 B9
                      go_upto_region 29 with fail
                      go_cut [16] (fun s16 wx => s16 = .bool (b1 && b2) ∧ W11 = wx)
                      case first =>
                        have Ac2 := A11.out.get 2 (.int .i64 x.vm) rfl
                        go_wp2_with fail
                        refine (Kb1.out _).mono ?_
                        rintro e w12 ⟨rfl, rfl⟩
                        cases b1
                        · go_wp2
                          go_meet
                          exact ⟨rfl, rfl⟩
                        have Ac9 := A11.out.get 9 (.int .i64 x.e.pg) rfl
                        go_wp2_with fail
                        refine (Kb2.out _).mono ?_
                        rintro e w13 ⟨rfl, rfl⟩
                        go_wp2
                        go_meet
                        exact ⟨rfl, rfl⟩
                      case rest =>
                      obtain ⟨rfl, rfl⟩ := hcut
                      obtain ⟨isA, hisA⟩ : ∃ b9, b9 = (b1 && b2) := ⟨_, rfl⟩
                      rw [← hisA]
                      have HisA := Lib.hid hisA
                      clear hisA
                      go_upto_block 3 with fail
                      go_cut [11, 16] (fun s11 s16 wx => s11 = .int .i64 q2 ∧ s16 = .bool (isA && b3) ∧ g11 + 1 + 1 ≤ wx.heap.size ∧ Hid (BoxAt wx (g1) #[.slice f l c, .slice g m d, .slice (some ⟨b, o, none⟩) n kk] 28) ∧ Hid (BoxAt wx (g4) #[.slice tf tl tc, .slice tg tm td] 25) ∧ Hid (BoxAt wx (g5) #[.int .i64 x.d, .int .i64 x.n, .int .i64 x.vm, .int .i64 x.sp, .int .i64 x.acc, .int .i64 x.e.k, .int .i64 x.e.vm, .int .i64 x.e.sp, .bool x.e.al, .int .i64 x.e.pg, .int .i64 x.e.lv, .int .i64 x.e.fr, .int .i64 x.e.mi, .bool x.e.t.r, .bool x.e.t.w, .bool x.e.t.x, .bool x.e.t.a, .bool x.e.t.n, .int .i64 x.e.t.s] 36) ∧ Hid (BoxAt wx (g8) #[.slice f7 F.length c7, .slice g7 D2.length d7] 25) ∧ Hid (BoxAt wx (g9) #[.slice none 0 0, .slice none 0 0] 25) ∧ Hid (BoxAt wx (g9 + 1) #[.slice none 0 0, .slice none 0 0] 25) ∧ Hid (BoxAt wx (g11) #[.int .i64 q1.k, .int .i64 q1.vm, .int .i64 q1.sp, .bool q1.al, .int .i64 q1.pg, .int .i64 q1.lv, .int .i64 q1.fr, .int .i64 q1.mi, .bool q1.t.r, .bool q1.t.w, .bool q1.t.x, .bool q1.t.a, .bool q1.t.n, .int .i64 q1.t.s] 34) ∧ Hid (BoxAt wx (g11 + 1) #[.int .i64 0, .int .i64 0, .int .i64 0, .bool false, .int .i64 0, .int .i64 0, .int .i64 0, .int .i64 0, .bool false, .bool false, .bool false, .bool false, .bool false, .int .i64 0] 34) ∧ Hid (OwnR KE wx (w.heap.size) (.slice tf tl tc) (F)) ∧ Hid (OwnR KI wx (w.heap.size) (.slice tg tm td) (D2)) ∧ Hid (OwnR KE wx (w.heap.size) (.slice f7 F.length c7) (F)) ∧ Hid (OwnR KI wx (w.heap.size) (.slice g7 D2.length d7) (D2)) ∧ Hid (Below w.heap.size w wx))
                      case first =>
                        as_aux_lemma =>
                          have Ic0 := I11.out.get 0 (.slice f7 F.length c7) rfl
                          have Ic1 := I11.out.get 1 (.slice g7 D2.length d7) rfl
                          have Ac2 := A11.out.get 2 (.int .i64 x.vm) rfl
                          have Ac3 := A11.out.get 3 (.int .i64 x.sp) rfl
                          have Ac9 := A11.out.get 9 (.int .i64 x.e.pg) rfl
                          go_wp2_with fail
                          refine (HPR.out _ (IE11.out) (ID11.out)).mono ?_
                          rintro e w12 ⟨rfl, hb12⟩
                          have hz12 := hb12.size
                          have P12 := Lib.hid (P11.out.below hb12)
                          have T12 := Lib.hid (T11.out.below hb12)
                          have A12 := Lib.hid (A11.out.below hb12)
                          have I12 := Lib.hid (I11.out.below hb12)
                          have X12 := Lib.hid (X11.out.below hb12)
                          have V12 := Lib.hid (V11.out.below hb12)
                          have Y12 := Lib.hid (Y11.out.below hb12)
                          have U12 := Lib.hid (U11.out.below hb12)
                          have TE12 := Lib.hid (TE11.out.below hb12)
                          have TD12 := Lib.hid (TD11.out.below hb12)
                          have IE12 := Lib.hid (IE11.out.below hb12)
                          have ID12 := Lib.hid (ID11.out.below hb12)
                          have B12 := Lib.hid (bel_trans B11.out hb12)
                          skip
                          have hs12 : g11 + 1 + 1 ≤ w12.heap.size := by omega
                          clear Ic0 Ic1 Ac2 Ac3 Ac9
                          clear P11 T11 A11 I11 X11 V11 Y11 U11 TE11 TD11 IE11 ID11 B11 hs11 hb12 hz12
                          go_upto_region 39 with ((with_reducible refine atStore 34 ?_); refine wpList_storeB rfl 34 _ _ rfl (g11) #[.int .i64 q1.k, .int .i64 q1.vm, .int .i64 q1.sp, .bool q1.al, .int .i64 q1.pg, .int .i64 q1.lv, .int .i64 q1.fr, .int .i64 q1.mi, .bool q1.t.r, .bool q1.t.w, .bool q1.t.x, .bool q1.t.a, .bool q1.t.n, .int .i64 q1.t.s] _ 34 rfl rfl (by kernel_rfl) (by rfl) (by simp [Value.oneCell']) Y12.out ?_)
                          have P13 := Lib.hid ((P12.out.row (cs' := #[.int .i64 q1.k, .int .i64 q1.vm, .int .i64 q1.sp, .bool q1.al, .int .i64 q1.pg, .int .i64 q1.lv, .int .i64 q1.fr, .int .i64 q1.mi, .bool q1.t.r, .bool q1.t.w, .bool q1.t.x, .bool q1.t.a, .bool q1.t.n, .int .i64 q1.t.s]) (show g1 ≠ g11 by omega)))
                          have T13 := Lib.hid ((T12.out.row (cs' := #[.int .i64 q1.k, .int .i64 q1.vm, .int .i64 q1.sp, .bool q1.al, .int .i64 q1.pg, .int .i64 q1.lv, .int .i64 q1.fr, .int .i64 q1.mi, .bool q1.t.r, .bool q1.t.w, .bool q1.t.x, .bool q1.t.a, .bool q1.t.n, .int .i64 q1.t.s]) (show g4 ≠ g11 by omega)))
                          have A13 := Lib.hid ((A12.out.row (cs' := #[.int .i64 q1.k, .int .i64 q1.vm, .int .i64 q1.sp, .bool q1.al, .int .i64 q1.pg, .int .i64 q1.lv, .int .i64 q1.fr, .int .i64 q1.mi, .bool q1.t.r, .bool q1.t.w, .bool q1.t.x, .bool q1.t.a, .bool q1.t.n, .int .i64 q1.t.s]) (show g5 ≠ g11 by omega)))
                          have I13 := Lib.hid ((I12.out.row (cs' := #[.int .i64 q1.k, .int .i64 q1.vm, .int .i64 q1.sp, .bool q1.al, .int .i64 q1.pg, .int .i64 q1.lv, .int .i64 q1.fr, .int .i64 q1.mi, .bool q1.t.r, .bool q1.t.w, .bool q1.t.x, .bool q1.t.a, .bool q1.t.n, .int .i64 q1.t.s]) (show g8 ≠ g11 by omega)))
                          have X13 := Lib.hid ((X12.out.row (cs' := #[.int .i64 q1.k, .int .i64 q1.vm, .int .i64 q1.sp, .bool q1.al, .int .i64 q1.pg, .int .i64 q1.lv, .int .i64 q1.fr, .int .i64 q1.mi, .bool q1.t.r, .bool q1.t.w, .bool q1.t.x, .bool q1.t.a, .bool q1.t.n, .int .i64 q1.t.s]) (show g9 ≠ g11 by omega)))
                          have V13 := Lib.hid ((V12.out.row (cs' := #[.int .i64 q1.k, .int .i64 q1.vm, .int .i64 q1.sp, .bool q1.al, .int .i64 q1.pg, .int .i64 q1.lv, .int .i64 q1.fr, .int .i64 q1.mi, .bool q1.t.r, .bool q1.t.w, .bool q1.t.x, .bool q1.t.a, .bool q1.t.n, .int .i64 q1.t.s]) (show g9 + 1 ≠ g11 by omega)))
                          have Y13 := Lib.hid ((Y12.out.put (cs' := #[.int .i64 q1.k, .int .i64 q1.vm, .int .i64 q1.sp, .bool q1.al, .int .i64 q1.pg, .int .i64 q1.lv, .int .i64 q1.fr, .int .i64 q1.mi, .bool q1.t.r, .bool q1.t.w, .bool q1.t.x, .bool q1.t.a, .bool q1.t.n, .int .i64 q1.t.s])))
                          have U13 := Lib.hid ((U12.out.row (cs' := #[.int .i64 q1.k, .int .i64 q1.vm, .int .i64 q1.sp, .bool q1.al, .int .i64 q1.pg, .int .i64 q1.lv, .int .i64 q1.fr, .int .i64 q1.mi, .bool q1.t.r, .bool q1.t.w, .bool q1.t.x, .bool q1.t.a, .bool q1.t.n, .int .i64 q1.t.s]) (show g11 + 1 ≠ g11 by omega)))
                          have TE13 := Lib.hid ((TE12.out.rowN (g := g11) (cs := #[.int .i64 q1.k, .int .i64 q1.vm, .int .i64 q1.sp, .bool q1.al, .int .i64 q1.pg, .int .i64 q1.lv, .int .i64 q1.fr, .int .i64 q1.mi, .bool q1.t.r, .bool q1.t.w, .bool q1.t.x, .bool q1.t.a, .bool q1.t.n, .int .i64 q1.t.s]) (fun he => absurd (HTE8.out _ he) (by first | omega | (simp; omega)))))
                          have TD13 := Lib.hid ((TD12.out.rowN (g := g11) (cs := #[.int .i64 q1.k, .int .i64 q1.vm, .int .i64 q1.sp, .bool q1.al, .int .i64 q1.pg, .int .i64 q1.lv, .int .i64 q1.fr, .int .i64 q1.mi, .bool q1.t.r, .bool q1.t.w, .bool q1.t.x, .bool q1.t.a, .bool q1.t.n, .int .i64 q1.t.s]) (TD12.out.ne_box Y12.out (by decide))))
                          have IE13 := Lib.hid ((IE12.out.rowN (g := g11) (cs := #[.int .i64 q1.k, .int .i64 q1.vm, .int .i64 q1.sp, .bool q1.al, .int .i64 q1.pg, .int .i64 q1.lv, .int .i64 q1.fr, .int .i64 q1.mi, .bool q1.t.r, .bool q1.t.w, .bool q1.t.x, .bool q1.t.a, .bool q1.t.n, .int .i64 q1.t.s]) (fun he => absurd (HIE8.out _ he) (by first | omega | (simp; omega)))))
                          have ID13 := Lib.hid ((ID12.out.rowN (g := g11) (cs := #[.int .i64 q1.k, .int .i64 q1.vm, .int .i64 q1.sp, .bool q1.al, .int .i64 q1.pg, .int .i64 q1.lv, .int .i64 q1.fr, .int .i64 q1.mi, .bool q1.t.r, .bool q1.t.w, .bool q1.t.x, .bool q1.t.a, .bool q1.t.n, .int .i64 q1.t.s]) (ID12.out.ne_box Y12.out (by decide))))
                          have B13 := Lib.hid ((Below.rowB (g := g11) B12.out (cs := #[.int .i64 q1.k, .int .i64 q1.vm, .int .i64 q1.sp, .bool q1.al, .int .i64 q1.pg, .int .i64 q1.lv, .int .i64 q1.fr, .int .i64 q1.mi, .bool q1.t.r, .bool q1.t.w, .bool q1.t.x, .bool q1.t.a, .bool q1.t.n, .int .i64 q1.t.s]) (show w.heap.size ≤ g11 by omega)))
                          obtain ⟨W13, hW13⟩ : ∃ W13, W13 = (w12).setRow (g11) #[.int .i64 q1.k, .int .i64 q1.vm, .int .i64 q1.sp, .bool q1.al, .int .i64 q1.pg, .int .i64 q1.lv, .int .i64 q1.fr, .int .i64 q1.mi, .bool q1.t.r, .bool q1.t.w, .bool q1.t.x, .bool q1.t.a, .bool q1.t.n, .int .i64 q1.t.s] := ⟨_, rfl⟩
                          have hs13 : g11 + 1 + 1 ≤ W13.heap.size := by rw [hW13]; first | exact hs12 | omega | (simp; omega)
                          rw [← hW13] at P13 T13 A13 I13 X13 V13 Y13 U13 TE13 TD13 IE13 ID13 B13 ⊢
                          clear hW13 P12 T12 A12 I12 X12 V12 Y12 U12 TE12 TD12 IE12 ID12 B12 hs12
                          cases isA
                          · go_wp2
                            go_meet
                            exact ⟨rfl, rfl, (by first | omega | (simp; done) | (simp; omega)), P13.out, T13.out, A13.out, I13.out, X13.out, V13.out, Y13.out, U13.out, TE13.out, TD13.out, IE13.out, ID13.out, B13.out⟩
                          have Ac3 := A13.out.get 3 (.int .i64 x.sp) rfl
                          go_wp2_with fail
                          refine (Kb3.out _).mono ?_
                          rintro e w14 ⟨rfl, rfl⟩
                          go_wp2
                          go_meet
                          exact ⟨rfl, rfl, (by first | omega | (simp; done) | (simp; omega)), P13.out, T13.out, A13.out, I13.out, X13.out, V13.out, Y13.out, U13.out, TE13.out, TD13.out, IE13.out, ID13.out, B13.out⟩
                      case rest =>
                      obtain ⟨rfl, rfl, hsq, Pq, Tq, Aq, Iq, Xq, Vq, Yq, Uq, TEq, TDq, IEq, IDq, Bq⟩ := hcut
                      clear P11 T11 A11 I11 X11 V11 Y11 U11 TE11 TD11 IE11 ID11 B11
                      as_aux_lemma =>
                        obtain ⟨isB, hisB⟩ : ∃ b9, b9 = (isA && b3) := ⟨_, rfl⟩
                        rw [← hisB]
                        have HisB := Lib.hid hisB
                        clear hisB
                        cases mt
                        · obtain ⟨hq1, hq2⟩ := Prod.mk.inj (HQ.out.trans (show deepR F D2 x.vm x.sp x.e.pg = (ent0, 1) from by have h := HMT.out; exact no6 (by rw [← h]; rfl)))
                          subst hq2
                          have hne : eqE (⟨q1.k, q1.vm, q1.sp, q1.al, q1.pg, q1.lv, q1.fr, q1.mi, ⟨q1.t.r, q1.t.w, q1.t.x, q1.t.a, q1.t.n, q1.t.s⟩⟩ : Ety) (⟨0, 0, 0, false, 0, 0, 0, 0, ⟨false, false, false, false, false, 0⟩⟩ : Ety) = true := by show eqE q1 _ = true; rw [hq1]; exact eqE_self _
                          clear hq1
                          go_wp2_with (first | ((with_reducible refine atLoad 34 ?_); refine wpList_ldN rfl 34 _ rfl g11 (0) rfl #[.int .i64 q1.k, .int .i64 q1.vm, .int .i64 q1.sp, .bool q1.al, .int .i64 q1.pg, .int .i64 q1.lv, .int .i64 q1.fr, .int .i64 q1.mi, .bool q1.t.r, .bool q1.t.w, .bool q1.t.x, .bool q1.t.a, .bool q1.t.n, .int .i64 q1.t.s] Try.underlying34 rfl (by kernel_rfl) (Yq.out).all ?_) | ((with_reducible refine atLoad 34 ?_); refine wpList_ldN rfl 34 _ rfl (g11 + 1) (0) rfl #[.int .i64 0, .int .i64 0, .int .i64 0, .bool false, .int .i64 0, .int .i64 0, .int .i64 0, .int .i64 0, .bool false, .bool false, .bool false, .bool false, .bool false, .int .i64 0] Try.underlying34 rfl (by kernel_rfl) (Uq.out).all ?_))
                          go_meet
                          exact ⟨1, mZ, none, none, none, none, 0, 0, 0, 0, 0, 0, 0, 0, [], [], rfl, rfl, (by omega), (by first | omega | (simp; done) | (simp; omega)), ⟨Nat.zero_le _, Nat.zero_le _⟩, (fun j hj => by simp [Value.ownBlock] at hj), (fun j hj => by simp [Value.ownBlock] at hj), Pq.out, Tq.out, Iq.out, Xq.out, Vq.out, TEq.out, TDq.out, IEq.out, IDq.out, OwnR.nil _ _, OwnR.nil _ _, OwnR.nil _ _, OwnR.nil _ _, Bq.out⟩
                        have HIS := Lib.hid (show is6 x.vm x.sp x.e.pg = isB from by rw [HisB.out, HisA.out, Hb1.out, Hb2.out, Hb3.out]; rfl)
                        cases isB
                        · obtain ⟨hq1, hq2⟩ := Prod.mk.inj (HQ.out.trans (show deepR F D2 x.vm x.sp x.e.pg = (ent0, 1) from by have h := HIS.out; exact no6 (by rw [h, Bool.and_false])))
                          subst hq2
                          have hne : eqE (⟨q1.k, q1.vm, q1.sp, q1.al, q1.pg, q1.lv, q1.fr, q1.mi, ⟨q1.t.r, q1.t.w, q1.t.x, q1.t.a, q1.t.n, q1.t.s⟩⟩ : Ety) (⟨0, 0, 0, false, 0, 0, 0, 0, ⟨false, false, false, false, false, 0⟩⟩ : Ety) = true := by show eqE q1 _ = true; rw [hq1]; exact eqE_self _
                          clear hq1
                          go_wp2_with (first | ((with_reducible refine atLoad 34 ?_); refine wpList_ldN rfl 34 _ rfl g11 (0) rfl #[.int .i64 q1.k, .int .i64 q1.vm, .int .i64 q1.sp, .bool q1.al, .int .i64 q1.pg, .int .i64 q1.lv, .int .i64 q1.fr, .int .i64 q1.mi, .bool q1.t.r, .bool q1.t.w, .bool q1.t.x, .bool q1.t.a, .bool q1.t.n, .int .i64 q1.t.s] Try.underlying34 rfl (by kernel_rfl) (Yq.out).all ?_) | ((with_reducible refine atLoad 34 ?_); refine wpList_ldN rfl 34 _ rfl (g11 + 1) (0) rfl #[.int .i64 0, .int .i64 0, .int .i64 0, .bool false, .int .i64 0, .int .i64 0, .int .i64 0, .int .i64 0, .bool false, .bool false, .bool false, .bool false, .bool false, .int .i64 0] Try.underlying34 rfl (by kernel_rfl) (Uq.out).all ?_))
                          go_meet
                          exact ⟨1, mZ, none, none, none, none, 0, 0, 0, 0, 0, 0, 0, 0, [], [], rfl, rfl, (by omega), (by first | omega | (simp; done) | (simp; omega)), ⟨Nat.zero_le _, Nat.zero_le _⟩, (fun j hj => by simp [Value.ownBlock] at hj), (fun j hj => by simp [Value.ownBlock] at hj), Pq.out, Tq.out, Iq.out, Xq.out, Vq.out, TEq.out, TDq.out, IEq.out, IDq.out, OwnR.nil _ _, OwnR.nil _ _, OwnR.nil _ _, OwnR.nil _ _, Bq.out⟩
                        rcases look6 (E := F) (D := D2) (by have h := HMT.out; exact h.symm) HIS.out with ⟨hpl, hrs⟩ | ⟨j, ye, hj, hpl, hrs⟩
                        rotate_left
                        · as_aux_lemma =>
                            obtain ⟨gb, rfl, hgb1, hgb2, hgb3⟩ := (TEq.out).there (show 0 < tl from by have h1 := HTL.out; have h2 := (List.getElem?_eq_some_iff.1 hj).1; omega)
                            clear hgb3
                            have hgbz : gb < mZ := HTE8.out gb rfl
                            have hjl : j < tl := by have h1 := HTL.out; have h2 := (List.getElem?_eq_some_iff.1 hj).1; omega
                            have hj0 : decide ((0 : Int) ≤ (j : Int)) = true := decide_eq_true (by omega)
                            have HJ := Lib.hid hj
                            clear hj
                            obtain ⟨hq1, hq2⟩ := Prod.mk.inj (HQ.out.trans (show deepR F D2 x.vm x.sp x.e.pg = (ye, 0) from by exact hrs))
                            subst hq2
                            have hne : eqE (⟨q1.k, q1.vm, q1.sp, q1.al, q1.pg, q1.lv, q1.fr, q1.mi, ⟨q1.t.r, q1.t.w, q1.t.x, q1.t.a, q1.t.n, q1.t.s⟩⟩ : Ety) (⟨ye.k, ye.vm, ye.sp, ye.al, ye.pg, ye.lv, ye.fr, ye.mi, ⟨ye.t.r, ye.t.w, ye.t.x, ye.t.a, ye.t.n, ye.t.s⟩⟩ : Ety) = true := by show eqE q1 _ = true; rw [hq1]; exact eqE_self _
                            clear hq1
                            clear hrs
                            have hat := fun W (hE : OwnR KE W w.heap.size (.slice (some ⟨gb, 0, none⟩) tl tc) F) (hD : OwnR KI W w.heap.size (.slice tg tm td) D2) => walk9_any (some ⟨gb, 0, none⟩) tg tl tc tm td F x.vm x.sp x.e.pg W hE.rows.2 hE.rows.1 (by omega) (fun y hy hk => mayEn_lv (mayT_may HMT.out.symm y hy) hk) (mayPl_pg (vm := x.vm) (sp := x.sp) (by rw [pl6]; exact HIS.out))
                            rw [hpl] at hat
                            have HAT := Lib.hid hat
                            clear hat hpl
                            have Tc0 := Tq.out.get 0 (.slice (some ⟨gb, 0, none⟩) tl tc) rfl
                            have Tc1 := Tq.out.get 1 (.slice tg tm td) rfl
                            have Ac2 := Aq.out.get 2 (.int .i64 x.vm) rfl
                            have Ac3 := Aq.out.get 3 (.int .i64 x.sp) rfl
                            have Ac9 := Aq.out.get 9 (.int .i64 x.e.pg) rfl
                            go_wp2_with fail
                            refine (HAT.out _ (TEq.out) (TDq.out)).mono ?_
                            rintro e w12 ⟨rfl, hb12⟩
                            have hz12 := hb12.size
                            have P12 := Lib.hid (Pq.out.below hb12)
                            have T12 := Lib.hid (Tq.out.below hb12)
                            have A12 := Lib.hid (Aq.out.below hb12)
                            have I12 := Lib.hid (Iq.out.below hb12)
                            have X12 := Lib.hid (Xq.out.below hb12)
                            have V12 := Lib.hid (Vq.out.below hb12)
                            have Y12 := Lib.hid (Yq.out.below hb12)
                            have U12 := Lib.hid (Uq.out.below hb12)
                            have TE12 := Lib.hid (TEq.out.below hb12)
                            have TD12 := Lib.hid (TDq.out.below hb12)
                            have IE12 := Lib.hid (IEq.out.below hb12)
                            have ID12 := Lib.hid (IDq.out.below hb12)
                            have B12 := Lib.hid (bel_trans Bq.out hb12)
                            skip
                            have hs12 : g11 + 1 + 1 ≤ w12.heap.size := by omega
                            clear Tc0 Tc1 Ac2 Ac3 Ac9
                            clear Pq Tq Aq Iq Xq Vq Yq Uq TEq TDq IEq IDq Bq hb12 hz12
                            go_upto_region 50 with fail
                            have HRT := Lib.hid (show RowAt w12 gb (0 + j * 14) 14 #[.int .i64 ye.k, .int .i64 ye.vm, .int .i64 ye.sp, .bool ye.al, .int .i64 ye.pg, .int .i64 ye.lv, .int .i64 ye.fr, .int .i64 ye.mi, .bool ye.t.r, .bool ye.t.w, .bool ye.t.x, .bool ye.t.a, .bool ye.t.n, .int .i64 ye.t.s] from own_row (TE12.out) HJ.out)
                            go_upto_region 50 with fail
                            refine wp_region_held_drew (S := (fun w' => BoxAt w' (g4) #[.slice (some ⟨gb, 0, none⟩) tl tc, .slice tg tm td] 25 ∧ RowAt w' (gb) (0 + j * 14) 14 #[.int .i64 ye.k, .int .i64 ye.vm, .int .i64 ye.sp, .bool ye.al, .int .i64 ye.pg, .int .i64 ye.lv, .int .i64 ye.fr, .int .i64 ye.mi, .bool ye.t.r, .bool ye.t.w, .bool ye.t.x, .bool ye.t.a, .bool ye.t.n, .int .i64 ye.t.s])) (by kernel_rfl) ⟨T12.out.drew, HRT.out.drew⟩ (fun hS => ?_)
                            refine tkR 0 207 (v := .pointer (some ⟨g4, 0, none⟩)) rfl hS (fun _ _ => by kernel_rfl) ?_
                            refine tkR 1 208 (v := .slice (some ⟨gb, 0, none⟩) tl tc) rfl hS (fun _ h => run_ld1 22 (.tmp 207) g4 0 (by kernel_rfl) (by kernel_rfl) Try.underlying22 rfl ((h.1).get 0 (.slice (some ⟨gb, 0, none⟩) tl tc) rfl)) ?_
                            refine tkR 2 209 (v := .int .i64 j) rfl hS (fun _ _ => by kernel_rfl) ?_
                            refine tkR 3 210 (v := .pointer (some ⟨gb, 0 + j * 14, none⟩)) rfl hS (fun _ _ => run_ixN 22 34 (.tmp 208) (.tmp 209) gb 0 tl tc j 14 (by kernel_rfl) (by kernel_rfl) (by kernel_rfl) Try.underlying22 (by kernel_rfl) hjl) ?_
                            refine tkR 4 211 (v := .agg #[.int .i64 ye.k, .int .i64 ye.vm, .int .i64 ye.sp, .bool ye.al, .int .i64 ye.pg, .int .i64 ye.lv, .int .i64 ye.fr, .int .i64 ye.mi, .bool ye.t.r, .bool ye.t.w, .bool ye.t.x, .bool ye.t.a, .bool ye.t.n, .int .i64 ye.t.s]) rfl hS (fun _ h => run_ldN 34 (.tmp 210) gb (0 + j * 14) (by kernel_rfl) (by kernel_rfl) Try.underlying34 rfl (by kernel_rfl) ((h.2).sub 0 _ rfl (Nat.le_of_ble_eq_true rfl))) ?_
                            refine tkR 5 8 (v := .int .i64 0) rfl hS (fun _ _ => by kernel_rfl) ?_
                            try simp only [Act.put, List.setIfInBounds_toArray, List.set_cons_zero, List.set_cons_succ]
                            refine wpAnyH_ready (rs := [6]) (by kernel_rfl) (by simp) ?_
                            refine AllReadyH.cons (o := ⟨none, _, _, _, _, _⟩) rfl (fun K hK => ?_) AllReadyH.nil
                            refine step_storeB rfl 34 _ _ rfl _ _ _ 34 rfl rfl (by kernel_rfl) (by rfl) (by simp [Value.oneCell']) (U12.out.drew) ?_
                            refine hK.out _ _ ?_ (fun hS' => ?_)
                            · exact ⟨hS.1.row (show g4 ≠ g11 + 1 by omega), hS.2.row (show gb ≠ g11 + 1 by omega)⟩
                            clear hK K hS
                            have hS := hS'
                            clear hS'
                            try simp only [Act.put]
                            refine wpAnyH_done (by kernel_rfl) ?_ _
                            try simp only [Act.put, List.setIfInBounds_toArray, List.set_cons_zero, List.set_cons_succ]
                            have P13 := Lib.hid (((P12.out.drew).row (cs' := #[.int .i64 ye.k, .int .i64 ye.vm, .int .i64 ye.sp, .bool ye.al, .int .i64 ye.pg, .int .i64 ye.lv, .int .i64 ye.fr, .int .i64 ye.mi, .bool ye.t.r, .bool ye.t.w, .bool ye.t.x, .bool ye.t.a, .bool ye.t.n, .int .i64 ye.t.s]) (show g1 ≠ g11 + 1 by omega)))
                            have T13 := Lib.hid (((T12.out.drew).row (cs' := #[.int .i64 ye.k, .int .i64 ye.vm, .int .i64 ye.sp, .bool ye.al, .int .i64 ye.pg, .int .i64 ye.lv, .int .i64 ye.fr, .int .i64 ye.mi, .bool ye.t.r, .bool ye.t.w, .bool ye.t.x, .bool ye.t.a, .bool ye.t.n, .int .i64 ye.t.s]) (show g4 ≠ g11 + 1 by omega)))
                            have A13 := Lib.hid (((A12.out.drew).row (cs' := #[.int .i64 ye.k, .int .i64 ye.vm, .int .i64 ye.sp, .bool ye.al, .int .i64 ye.pg, .int .i64 ye.lv, .int .i64 ye.fr, .int .i64 ye.mi, .bool ye.t.r, .bool ye.t.w, .bool ye.t.x, .bool ye.t.a, .bool ye.t.n, .int .i64 ye.t.s]) (show g5 ≠ g11 + 1 by omega)))
                            have I13 := Lib.hid (((I12.out.drew).row (cs' := #[.int .i64 ye.k, .int .i64 ye.vm, .int .i64 ye.sp, .bool ye.al, .int .i64 ye.pg, .int .i64 ye.lv, .int .i64 ye.fr, .int .i64 ye.mi, .bool ye.t.r, .bool ye.t.w, .bool ye.t.x, .bool ye.t.a, .bool ye.t.n, .int .i64 ye.t.s]) (show g8 ≠ g11 + 1 by omega)))
                            have X13 := Lib.hid (((X12.out.drew).row (cs' := #[.int .i64 ye.k, .int .i64 ye.vm, .int .i64 ye.sp, .bool ye.al, .int .i64 ye.pg, .int .i64 ye.lv, .int .i64 ye.fr, .int .i64 ye.mi, .bool ye.t.r, .bool ye.t.w, .bool ye.t.x, .bool ye.t.a, .bool ye.t.n, .int .i64 ye.t.s]) (show g9 ≠ g11 + 1 by omega)))
                            have V13 := Lib.hid (((V12.out.drew).row (cs' := #[.int .i64 ye.k, .int .i64 ye.vm, .int .i64 ye.sp, .bool ye.al, .int .i64 ye.pg, .int .i64 ye.lv, .int .i64 ye.fr, .int .i64 ye.mi, .bool ye.t.r, .bool ye.t.w, .bool ye.t.x, .bool ye.t.a, .bool ye.t.n, .int .i64 ye.t.s]) (show g9 + 1 ≠ g11 + 1 by omega)))
                            have Y13 := Lib.hid (((Y12.out.drew).row (cs' := #[.int .i64 ye.k, .int .i64 ye.vm, .int .i64 ye.sp, .bool ye.al, .int .i64 ye.pg, .int .i64 ye.lv, .int .i64 ye.fr, .int .i64 ye.mi, .bool ye.t.r, .bool ye.t.w, .bool ye.t.x, .bool ye.t.a, .bool ye.t.n, .int .i64 ye.t.s]) (show g11 ≠ g11 + 1 by omega)))
                            have U13 := Lib.hid (((U12.out.drew).put (cs' := #[.int .i64 ye.k, .int .i64 ye.vm, .int .i64 ye.sp, .bool ye.al, .int .i64 ye.pg, .int .i64 ye.lv, .int .i64 ye.fr, .int .i64 ye.mi, .bool ye.t.r, .bool ye.t.w, .bool ye.t.x, .bool ye.t.a, .bool ye.t.n, .int .i64 ye.t.s])))
                            have TE13 := Lib.hid (((TE12.out.drew).rowN (g := g11 + 1) (cs := #[.int .i64 ye.k, .int .i64 ye.vm, .int .i64 ye.sp, .bool ye.al, .int .i64 ye.pg, .int .i64 ye.lv, .int .i64 ye.fr, .int .i64 ye.mi, .bool ye.t.r, .bool ye.t.w, .bool ye.t.x, .bool ye.t.a, .bool ye.t.n, .int .i64 ye.t.s]) (fun he => absurd (HTE8.out _ he) (by first | omega | (simp; omega)))))
                            have TD13 := Lib.hid (((TD12.out.drew).rowN (g := g11 + 1) (cs := #[.int .i64 ye.k, .int .i64 ye.vm, .int .i64 ye.sp, .bool ye.al, .int .i64 ye.pg, .int .i64 ye.lv, .int .i64 ye.fr, .int .i64 ye.mi, .bool ye.t.r, .bool ye.t.w, .bool ye.t.x, .bool ye.t.a, .bool ye.t.n, .int .i64 ye.t.s]) (TD12.out.ne_box U12.out (by decide))))
                            have IE13 := Lib.hid (((IE12.out.drew).rowN (g := g11 + 1) (cs := #[.int .i64 ye.k, .int .i64 ye.vm, .int .i64 ye.sp, .bool ye.al, .int .i64 ye.pg, .int .i64 ye.lv, .int .i64 ye.fr, .int .i64 ye.mi, .bool ye.t.r, .bool ye.t.w, .bool ye.t.x, .bool ye.t.a, .bool ye.t.n, .int .i64 ye.t.s]) (fun he => absurd (HIE8.out _ he) (by first | omega | (simp; omega)))))
                            have ID13 := Lib.hid (((ID12.out.drew).rowN (g := g11 + 1) (cs := #[.int .i64 ye.k, .int .i64 ye.vm, .int .i64 ye.sp, .bool ye.al, .int .i64 ye.pg, .int .i64 ye.lv, .int .i64 ye.fr, .int .i64 ye.mi, .bool ye.t.r, .bool ye.t.w, .bool ye.t.x, .bool ye.t.a, .bool ye.t.n, .int .i64 ye.t.s]) (ID12.out.ne_box U12.out (by decide))))
                            have B13 := Lib.hid ((Below.rowB (g := g11 + 1) (Below.drew B12.out) (cs := #[.int .i64 ye.k, .int .i64 ye.vm, .int .i64 ye.sp, .bool ye.al, .int .i64 ye.pg, .int .i64 ye.lv, .int .i64 ye.fr, .int .i64 ye.mi, .bool ye.t.r, .bool ye.t.w, .bool ye.t.x, .bool ye.t.a, .bool ye.t.n, .int .i64 ye.t.s]) (show w.heap.size ≤ g11 + 1 by omega)))
                            obtain ⟨W13, hW13⟩ : ∃ W13, W13 = ((w12).drew).setRow (g11 + 1) #[.int .i64 ye.k, .int .i64 ye.vm, .int .i64 ye.sp, .bool ye.al, .int .i64 ye.pg, .int .i64 ye.lv, .int .i64 ye.fr, .int .i64 ye.mi, .bool ye.t.r, .bool ye.t.w, .bool ye.t.x, .bool ye.t.a, .bool ye.t.n, .int .i64 ye.t.s] := ⟨_, rfl⟩
                            have hs13 : g11 + 1 + 1 ≤ W13.heap.size := by rw [hW13]; first | exact hs12 | omega | (simp; omega)
                            rw [← hW13] at P13 T13 A13 I13 X13 V13 Y13 U13 TE13 TD13 IE13 ID13 B13 ⊢
                            clear hW13 P12 T12 A12 I12 X12 V12 Y12 U12 TE12 TD12 IE12 ID12 B12 hs12
                            go_wp2_with (first | ((with_reducible refine atLoad 34 ?_); refine wpList_ldN rfl 34 _ rfl g11 (0) rfl #[.int .i64 q1.k, .int .i64 q1.vm, .int .i64 q1.sp, .bool q1.al, .int .i64 q1.pg, .int .i64 q1.lv, .int .i64 q1.fr, .int .i64 q1.mi, .bool q1.t.r, .bool q1.t.w, .bool q1.t.x, .bool q1.t.a, .bool q1.t.n, .int .i64 q1.t.s] Try.underlying34 rfl (by kernel_rfl) (Y13.out).all ?_) | ((with_reducible refine atLoad 34 ?_); refine wpList_ldN rfl 34 _ rfl (g11 + 1) (0) rfl #[.int .i64 ye.k, .int .i64 ye.vm, .int .i64 ye.sp, .bool ye.al, .int .i64 ye.pg, .int .i64 ye.lv, .int .i64 ye.fr, .int .i64 ye.mi, .bool ye.t.r, .bool ye.t.w, .bool ye.t.x, .bool ye.t.a, .bool ye.t.n, .int .i64 ye.t.s] Try.underlying34 rfl (by kernel_rfl) (U13.out).all ?_))
                            go_meet
                            exact ⟨0, mZ, none, none, none, none, 0, 0, 0, 0, 0, 0, 0, 0, [], [], rfl, rfl, (by omega), (by first | omega | (simp; done) | (simp; omega)), ⟨Nat.zero_le _, Nat.zero_le _⟩, (fun j hj => by simp [Value.ownBlock] at hj), (fun j hj => by simp [Value.ownBlock] at hj), P13.out, T13.out, I13.out, X13.out, V13.out, TE13.out, TD13.out, IE13.out, ID13.out, OwnR.nil _ _, OwnR.nil _ _, OwnR.nil _ _, OwnR.nil _ _, B13.out⟩
                        · as_aux_lemma =>
                            obtain ⟨hq1, hq2⟩ := Prod.mk.inj (HQ.out.trans (show deepR F D2 x.vm x.sp x.e.pg = (ent0, 3) from by exact hrs))
                            subst hq2
                            have hne : eqE (⟨q1.k, q1.vm, q1.sp, q1.al, q1.pg, q1.lv, q1.fr, q1.mi, ⟨q1.t.r, q1.t.w, q1.t.x, q1.t.a, q1.t.n, q1.t.s⟩⟩ : Ety) (⟨0, 0, 0, false, 0, 0, 0, 0, ⟨false, false, false, false, false, 0⟩⟩ : Ety) = true := by show eqE q1 _ = true; rw [hq1]; exact eqE_self _
                            clear hq1
                            clear hrs
                            have hat := fun W (hE : OwnR KE W w.heap.size (.slice tf tl tc) F) (hD : OwnR KI W w.heap.size (.slice tg tm td) D2) => walk9_any tf tg tl tc tm td F x.vm x.sp x.e.pg W hE.rows.2 hE.rows.1 (by omega) (fun y hy hk => mayEn_lv (mayT_may HMT.out.symm y hy) hk) (mayPl_pg (vm := x.vm) (sp := x.sp) (by rw [pl6]; exact HIS.out))
                            rw [hpl] at hat
                            have HAT := Lib.hid hat
                            clear hat hpl
                            have Tc0 := Tq.out.get 0 (.slice tf tl tc) rfl
                            have Tc1 := Tq.out.get 1 (.slice tg tm td) rfl
                            have Ac2 := Aq.out.get 2 (.int .i64 x.vm) rfl
                            have Ac3 := Aq.out.get 3 (.int .i64 x.sp) rfl
                            have Ac9 := Aq.out.get 9 (.int .i64 x.e.pg) rfl
                            go_wp2_with fail
                            refine (HAT.out _ (TEq.out) (TDq.out)).mono ?_
                            rintro e w12 ⟨rfl, hb12⟩
                            have hz12 := hb12.size
                            have P12 := Lib.hid (Pq.out.below hb12)
                            have T12 := Lib.hid (Tq.out.below hb12)
                            have A12 := Lib.hid (Aq.out.below hb12)
                            have I12 := Lib.hid (Iq.out.below hb12)
                            have X12 := Lib.hid (Xq.out.below hb12)
                            have V12 := Lib.hid (Vq.out.below hb12)
                            have Y12 := Lib.hid (Yq.out.below hb12)
                            have U12 := Lib.hid (Uq.out.below hb12)
                            have TE12 := Lib.hid (TEq.out.below hb12)
                            have TD12 := Lib.hid (TDq.out.below hb12)
                            have IE12 := Lib.hid (IEq.out.below hb12)
                            have ID12 := Lib.hid (IDq.out.below hb12)
                            have B12 := Lib.hid (bel_trans Bq.out hb12)
                            skip
                            have hs12 : g11 + 1 + 1 ≤ w12.heap.size := by omega
                            clear Tc0 Tc1 Ac2 Ac3 Ac9
                            clear Pq Tq Aq Iq Xq Vq Yq Uq TEq TDq IEq IDq Bq hb12 hz12
                            go_wp2_with (first | ((with_reducible refine atLoad 34 ?_); refine wpList_ldN rfl 34 _ rfl g11 (0) rfl #[.int .i64 q1.k, .int .i64 q1.vm, .int .i64 q1.sp, .bool q1.al, .int .i64 q1.pg, .int .i64 q1.lv, .int .i64 q1.fr, .int .i64 q1.mi, .bool q1.t.r, .bool q1.t.w, .bool q1.t.x, .bool q1.t.a, .bool q1.t.n, .int .i64 q1.t.s] Try.underlying34 rfl (by kernel_rfl) (Y12.out).all ?_) | ((with_reducible refine atLoad 34 ?_); refine wpList_ldN rfl 34 _ rfl (g11 + 1) (0) rfl #[.int .i64 0, .int .i64 0, .int .i64 0, .bool false, .int .i64 0, .int .i64 0, .int .i64 0, .int .i64 0, .bool false, .bool false, .bool false, .bool false, .bool false, .int .i64 0] Try.underlying34 rfl (by kernel_rfl) (U12.out).all ?_))
                            go_meet
                            exact ⟨3, mZ, none, none, none, none, 0, 0, 0, 0, 0, 0, 0, 0, [], [], rfl, rfl, (by omega), (by first | omega | (simp; done) | (simp; omega)), ⟨Nat.zero_le _, Nat.zero_le _⟩, (fun j hj => by simp [Value.ownBlock] at hj), (fun j hj => by simp [Value.ownBlock] at hj), P12.out, T12.out, I12.out, X12.out, V12.out, TE12.out, TD12.out, IE12.out, ID12.out, OwnR.nil _ _, OwnR.nil _ _, OwnR.nil _ _, OwnR.nil _ _, B12.out⟩
                  · as_aux_lemma =>
                      have e3 : (dd == 3) = false := by simp [h3]
                      have e4 : (dd == 4) = false := by simp [h4]
                      have e5 : (dd == 5) = false := by simp [h5]
                      have e6 : (dd == 6) = false := by simp [h6]
                      obtain ⟨me, hme9⟩ : ∃ me, me = mayEn x.e := ⟨_, rfl⟩
                      have hen := fun W => entry9_any x.e W
                      rw [← hme9] at hen
                      simp only [entV, entC] at hen
                      have HEN := Lib.hid hen
                      have HME := Lib.hid hme9
                      clear hen hme9
                      cases mt
                      · have hpx := fun W (hE : OwnR KE W w.heap.size (.slice f7 F.length c7) F) (hD : OwnR KI W w.heap.size (.slice g7 D2.length d7) D2) => fillO w.heap.size f7 g7 F.length c7 D2.length d7 F D2 x.e W hE hD (by omega) (by omega)
                        rw [show fillR F D2 x.e = ([], [], 1) from by have h := HMT.out; unfold fillR; rw [← h]; rfl] at hpx
                        simp only [EndF, entV, entC] at hpx
                        have HPX := Lib.hid hpx
                        clear hpx
                        have Ic0 := I9.out.get 0 (.slice f7 F.length c7) rfl
                        have Ic1 := I9.out.get 1 (.slice g7 D2.length d7) rfl
                        go_wp2_with ((with_reducible refine atLoad 34 ?_); refine wpList_ldN rfl 34 _ rfl g5 (5) rfl #[.int .i64 x.e.k, .int .i64 x.e.vm, .int .i64 x.e.sp, .bool x.e.al, .int .i64 x.e.pg, .int .i64 x.e.lv, .int .i64 x.e.fr, .int .i64 x.e.mi, .bool x.e.t.r, .bool x.e.t.w, .bool x.e.t.x, .bool x.e.t.a, .bool x.e.t.n, .int .i64 x.e.t.s] Try.underlying34 rfl (by kernel_rfl) ((A9.out).sub 5 _ rfl) ?_)
                        refine (HPX.out _ (IE9.out) (ID9.out)).mono ?_
                        rintro e w11 ⟨f11, l11, c11, g11, m11, d11, rfl, hl11, hm11, hE11, hD11, hb11⟩
                        obtain rfl : l11 = 0 := hl11
                        obtain rfl : m11 = 0 := hm11
                        obtain ⟨bZ, hbZ⟩ : ∃ bZ, bZ = (W9).heap.size := ⟨_, rfl⟩
                        rw [← hbZ] at hE11 hD11
                        have hbZg : mZ ≤ bZ := by omega
                        have hbZz := hb11.size
                        have hsB : bZ ≤ w11.heap.size := by omega
                        clear hbZz hbZ
                        have OE11 := Lib.hid hE11
                        have OD11 := Lib.hid hD11
                        clear hE11 hD11
                        have hz11 := hb11.size
                        have P11 := Lib.hid (P9.out.below hb11)
                        have T11 := Lib.hid (T9.out.below hb11)
                        have A11 := Lib.hid (A9.out.below hb11)
                        have I11 := Lib.hid (I9.out.below hb11)
                        have X11 := Lib.hid (X9.out.below hb11)
                        have V11 := Lib.hid (V9.out.below hb11)
                        have TE11 := Lib.hid (TE9.out.below hb11)
                        have TD11 := Lib.hid (TD9.out.below hb11)
                        have IE11 := Lib.hid (IE9.out.below hb11)
                        have ID11 := Lib.hid (ID9.out.below hb11)
                        have B11 := Lib.hid (bel_trans B9.out hb11)
                        skip
                        have hs11 : mZ ≤ w11.heap.size := by omega
                        clear Ic0 Ic1
                        clear P9 T9 A9 I9 X9 V9 TE9 TD9 IE9 ID9 B9 hb11 hz11
                        go_wp2_with ((with_reducible refine atStore 25 ?_); refine wpList_storeB rfl 25 _ _ rfl (g9) #[.slice f11 0 c11, .slice g11 0 d11] _ 25 rfl rfl (by kernel_rfl) (by rfl) (by simp [Value.oneCell']) X11.out ?_)
                        go_meet
                        exact ⟨1, bZ, f11, g11, none, none, 0, c11, 0, d11, 0, 0, 0, 0, [], [], rfl, rfl, (by omega), (by first | omega | (simp; done) | (simp; omega)), ⟨Nat.zero_le _, Nat.zero_le _⟩, (fun j hj => by simp [Value.ownBlock] at hj), (fun j hj => by simp [Value.ownBlock] at hj), (P11.out.row (cs' := #[.slice f11 0 c11, .slice g11 0 d11]) (show g1 ≠ g9 by omega)), (T11.out.row (cs' := #[.slice f11 0 c11, .slice g11 0 d11]) (show g4 ≠ g9 by omega)), (I11.out.row (cs' := #[.slice f11 0 c11, .slice g11 0 d11]) (show g8 ≠ g9 by omega)), (X11.out.put (cs' := #[.slice f11 0 c11, .slice g11 0 d11])), (V11.out.row (cs' := #[.slice f11 0 c11, .slice g11 0 d11]) (show g9 + 1 ≠ g9 by omega)), (TE11.out.rowN (g := g9) (cs := #[.slice f11 0 c11, .slice g11 0 d11]) (TE11.out.ne_box X11.out (by decide))), (TD11.out.rowN (g := g9) (cs := #[.slice f11 0 c11, .slice g11 0 d11]) (TD11.out.ne_box X11.out (by decide))), (IE11.out.rowN (g := g9) (cs := #[.slice f11 0 c11, .slice g11 0 d11]) (IE11.out.ne_box X11.out (by decide))), (ID11.out.rowN (g := g9) (cs := #[.slice f11 0 c11, .slice g11 0 d11]) (ID11.out.ne_box X11.out (by decide))), (OE11.out.rowN (g := g9) (cs := #[.slice f11 0 c11, .slice g11 0 d11]) (OE11.out.ne_box X11.out (by decide))), (OD11.out.rowN (g := g9) (cs := #[.slice f11 0 c11, .slice g11 0 d11]) (OD11.out.ne_box X11.out (by decide))), OwnR.nil _ _, OwnR.nil _ _, (Below.rowB (g := g9) B11.out (cs := #[.slice f11 0 c11, .slice g11 0 d11]) (show w.heap.size ≤ g9 by omega))⟩
                      have Ac5 := A9.out.get 5 (.int .i64 x.e.k) rfl
                      have Ac6 := A9.out.get 6 (.int .i64 x.e.vm) rfl
                      have Ac7 := A9.out.get 7 (.int .i64 x.e.sp) rfl
                      have Ac8 := A9.out.get 8 (.bool x.e.al) rfl
                      have Ac9 := A9.out.get 9 (.int .i64 x.e.pg) rfl
                      have Ac10 := A9.out.get 10 (.int .i64 x.e.lv) rfl
                      have Ac11 := A9.out.get 11 (.int .i64 x.e.fr) rfl
                      have Ac12 := A9.out.get 12 (.int .i64 x.e.mi) rfl
                      have Ac13 := A9.out.get 13 (.bool x.e.t.r) rfl
                      have Ac14 := A9.out.get 14 (.bool x.e.t.w) rfl
                      have Ac15 := A9.out.get 15 (.bool x.e.t.x) rfl
                      have Ac16 := A9.out.get 16 (.bool x.e.t.a) rfl
                      have Ac17 := A9.out.get 17 (.bool x.e.t.n) rfl
                      have Ac18 := A9.out.get 18 (.int .i64 x.e.t.s) rfl
                      go_wp2_with fail
                      refine (HEN.out _).mono ?_
                      rintro e w11 ⟨rfl, hb11⟩
                      have hz11 := hb11.size
                      have P11 := Lib.hid (P9.out.below hb11)
                      have T11 := Lib.hid (T9.out.below hb11)
                      have A11 := Lib.hid (A9.out.below hb11)
                      have I11 := Lib.hid (I9.out.below hb11)
                      have X11 := Lib.hid (X9.out.below hb11)
                      have V11 := Lib.hid (V9.out.below hb11)
                      have TE11 := Lib.hid (TE9.out.below hb11)
                      have TD11 := Lib.hid (TD9.out.below hb11)
                      have IE11 := Lib.hid (IE9.out.below hb11)
                      have ID11 := Lib.hid (ID9.out.below hb11)
                      have B11 := Lib.hid (bel_trans B9.out hb11)
                      skip
                      have hs11 : mZ ≤ w11.heap.size := by omega
                      clear Ac5 Ac6 Ac7 Ac8 Ac9 Ac10 Ac11 Ac12 Ac13 Ac14 Ac15 Ac16 Ac17 Ac18
                      clear P9 T9 A9 I9 X9 V9 TE9 TD9 IE9 ID9 B9 hb11 hz11
                      cases me
                      · have hpx := fun W (hE : OwnR KE W w.heap.size (.slice f7 F.length c7) F) (hD : OwnR KI W w.heap.size (.slice g7 D2.length d7) D2) => fillO w.heap.size f7 g7 F.length c7 D2.length d7 F D2 x.e W hE hD (by omega) (by omega)
                        rw [show fillR F D2 x.e = ([], [], 1) from by have h := HME.out; unfold fillR; rw [← h, Bool.and_false]; rfl] at hpx
                        simp only [EndF, entV, entC] at hpx
                        have HPX := Lib.hid hpx
                        clear hpx
                        have Ic0 := I11.out.get 0 (.slice f7 F.length c7) rfl
                        have Ic1 := I11.out.get 1 (.slice g7 D2.length d7) rfl
                        go_wp2_with ((with_reducible refine atLoad 34 ?_); refine wpList_ldN rfl 34 _ rfl g5 (5) rfl #[.int .i64 x.e.k, .int .i64 x.e.vm, .int .i64 x.e.sp, .bool x.e.al, .int .i64 x.e.pg, .int .i64 x.e.lv, .int .i64 x.e.fr, .int .i64 x.e.mi, .bool x.e.t.r, .bool x.e.t.w, .bool x.e.t.x, .bool x.e.t.a, .bool x.e.t.n, .int .i64 x.e.t.s] Try.underlying34 rfl (by kernel_rfl) ((A11.out).sub 5 _ rfl) ?_)
                        refine (HPX.out _ (IE11.out) (ID11.out)).mono ?_
                        rintro e w12 ⟨f12, l12, c12, g12, m12, d12, rfl, hl12, hm12, hE12, hD12, hb12⟩
                        obtain rfl : l12 = 0 := hl12
                        obtain rfl : m12 = 0 := hm12
                        obtain ⟨bZ, hbZ⟩ : ∃ bZ, bZ = (w11).heap.size := ⟨_, rfl⟩
                        rw [← hbZ] at hE12 hD12
                        have hbZg : mZ ≤ bZ := by omega
                        have hbZz := hb12.size
                        have hsB : bZ ≤ w12.heap.size := by omega
                        clear hbZz hbZ
                        have OE12 := Lib.hid hE12
                        have OD12 := Lib.hid hD12
                        clear hE12 hD12
                        have hz12 := hb12.size
                        have P12 := Lib.hid (P11.out.below hb12)
                        have T12 := Lib.hid (T11.out.below hb12)
                        have A12 := Lib.hid (A11.out.below hb12)
                        have I12 := Lib.hid (I11.out.below hb12)
                        have X12 := Lib.hid (X11.out.below hb12)
                        have V12 := Lib.hid (V11.out.below hb12)
                        have TE12 := Lib.hid (TE11.out.below hb12)
                        have TD12 := Lib.hid (TD11.out.below hb12)
                        have IE12 := Lib.hid (IE11.out.below hb12)
                        have ID12 := Lib.hid (ID11.out.below hb12)
                        have B12 := Lib.hid (bel_trans B11.out hb12)
                        skip
                        have hs12 : mZ ≤ w12.heap.size := by omega
                        clear Ic0 Ic1
                        clear P11 T11 A11 I11 X11 V11 TE11 TD11 IE11 ID11 B11 hs11 hb12 hz12
                        go_wp2_with ((with_reducible refine atStore 25 ?_); refine wpList_storeB rfl 25 _ _ rfl (g9) #[.slice f12 0 c12, .slice g12 0 d12] _ 25 rfl rfl (by kernel_rfl) (by rfl) (by simp [Value.oneCell']) X12.out ?_)
                        go_meet
                        exact ⟨1, bZ, f12, g12, none, none, 0, c12, 0, d12, 0, 0, 0, 0, [], [], rfl, rfl, (by omega), (by first | omega | (simp; done) | (simp; omega)), ⟨Nat.zero_le _, Nat.zero_le _⟩, (fun j hj => by simp [Value.ownBlock] at hj), (fun j hj => by simp [Value.ownBlock] at hj), (P12.out.row (cs' := #[.slice f12 0 c12, .slice g12 0 d12]) (show g1 ≠ g9 by omega)), (T12.out.row (cs' := #[.slice f12 0 c12, .slice g12 0 d12]) (show g4 ≠ g9 by omega)), (I12.out.row (cs' := #[.slice f12 0 c12, .slice g12 0 d12]) (show g8 ≠ g9 by omega)), (X12.out.put (cs' := #[.slice f12 0 c12, .slice g12 0 d12])), (V12.out.row (cs' := #[.slice f12 0 c12, .slice g12 0 d12]) (show g9 + 1 ≠ g9 by omega)), (TE12.out.rowN (g := g9) (cs := #[.slice f12 0 c12, .slice g12 0 d12]) (TE12.out.ne_box X12.out (by decide))), (TD12.out.rowN (g := g9) (cs := #[.slice f12 0 c12, .slice g12 0 d12]) (TD12.out.ne_box X12.out (by decide))), (IE12.out.rowN (g := g9) (cs := #[.slice f12 0 c12, .slice g12 0 d12]) (IE12.out.ne_box X12.out (by decide))), (ID12.out.rowN (g := g9) (cs := #[.slice f12 0 c12, .slice g12 0 d12]) (ID12.out.ne_box X12.out (by decide))), (OE12.out.rowN (g := g9) (cs := #[.slice f12 0 c12, .slice g12 0 d12]) (OE12.out.ne_box X12.out (by decide))), (OD12.out.rowN (g := g9) (cs := #[.slice f12 0 c12, .slice g12 0 d12]) (OD12.out.ne_box X12.out (by decide))), OwnR.nil _ _, OwnR.nil _ _, (Below.rowB (g := g9) B12.out (cs := #[.slice f12 0 c12, .slice g12 0 d12]) (show w.heap.size ≤ g9 by omega))⟩
                      have hpx := fun W (hE : OwnR KE W w.heap.size (.slice f7 F.length c7) F) (hD : OwnR KI W w.heap.size (.slice g7 D2.length d7) D2) => fillO w.heap.size f7 g7 F.length c7 D2.length d7 F D2 x.e W hE hD (by omega) (by omega)
                      rw [show fillR F D2 x.e = (fill9 F x.e, D2, 0) from by have h := HMT.out; have h2 := HME.out; unfold fillR; rw [← h, ← h2]; rfl] at hpx
                      simp only [EndF, entV, entC] at hpx
                      have HPX := Lib.hid hpx
                      clear hpx
                      have HLX := Lib.hid (show (fill9 F x.e).length ≤ 200 ∧ D2.length ≤ 200 from ⟨by have h1 := fill9_len (F := F) (e := x.e); have h2 := (mayT_len8 HMT.out.symm).1; omega, hDl⟩)
                      have hfl := fun W (hE : OwnR KE W w.heap.size (.slice tf tl tc) F) (hD : OwnR KI W w.heap.size (.slice tg tm td) D2) => fill9_any tf tg tl tc tm td F D2 x.e W hE.rows.2 hE.rows.1 hD.rows.2 hD.rows.1 (by omega) (by omega)
                      simp only [entV, entC] at hfl
                      have HFL := Lib.hid hfl
                      clear hfl
                      have Tc0 := T11.out.get 0 (.slice tf tl tc) rfl
                      have Tc1 := T11.out.get 1 (.slice tg tm td) rfl
                      go_wp2_with ((with_reducible refine atLoad 34 ?_); refine wpList_ldN rfl 34 _ rfl g5 (5) rfl #[.int .i64 x.e.k, .int .i64 x.e.vm, .int .i64 x.e.sp, .bool x.e.al, .int .i64 x.e.pg, .int .i64 x.e.lv, .int .i64 x.e.fr, .int .i64 x.e.mi, .bool x.e.t.r, .bool x.e.t.w, .bool x.e.t.x, .bool x.e.t.a, .bool x.e.t.n, .int .i64 x.e.t.s] Try.underlying34 rfl (by kernel_rfl) ((A11.out).sub 5 _ rfl) ?_)
                      refine (HFL.out _ (TE11.out) (TD11.out)).mono ?_
                      rintro e w12 ⟨f12, l12, c12, g12, d12, rfl, hl12, hE12, hD12, hb12⟩
                      clear hl12
                      have OE12 := Lib.hid (OwnR.mono hE12 (base' := w.heap.size) (by first | omega | (simp; done) | (simp; omega)))
                      have OD12 := Lib.hid (OwnR.mono hD12 (base' := w.heap.size) (by first | omega | (simp; done) | (simp; omega)))
                      clear hE12 hD12
                      have hz12 := hb12.size
                      have P12 := Lib.hid (P11.out.below hb12)
                      have T12 := Lib.hid (T11.out.below hb12)
                      have A12 := Lib.hid (A11.out.below hb12)
                      have I12 := Lib.hid (I11.out.below hb12)
                      have X12 := Lib.hid (X11.out.below hb12)
                      have V12 := Lib.hid (V11.out.below hb12)
                      have TE12 := Lib.hid (TE11.out.below hb12)
                      have TD12 := Lib.hid (TD11.out.below hb12)
                      have IE12 := Lib.hid (IE11.out.below hb12)
                      have ID12 := Lib.hid (ID11.out.below hb12)
                      have B12 := Lib.hid (bel_trans B11.out hb12)
                      skip
                      have hs12 : mZ ≤ w12.heap.size := by omega
                      clear Tc0 Tc1
                      clear P11 T11 A11 I11 X11 V11 TE11 TD11 IE11 ID11 B11 hs11 hb12 hz12
                      go_upto_region 17 with ((with_reducible refine atStore 25 ?_); refine wpList_storeB rfl 25 _ _ rfl (g9 + 1) #[.slice f12 l12 c12, .slice g12 tm d12] _ 25 rfl rfl (by kernel_rfl) (by rfl) (by simp [Value.oneCell']) V12.out ?_)
                      have P13 := Lib.hid ((P12.out.row (cs' := #[.slice f12 l12 c12, .slice g12 tm d12]) (show g1 ≠ g9 + 1 by omega)))
                      have T13 := Lib.hid ((T12.out.row (cs' := #[.slice f12 l12 c12, .slice g12 tm d12]) (show g4 ≠ g9 + 1 by omega)))
                      have A13 := Lib.hid ((A12.out.row (cs' := #[.slice f12 l12 c12, .slice g12 tm d12]) (show g5 ≠ g9 + 1 by omega)))
                      have I13 := Lib.hid ((I12.out.row (cs' := #[.slice f12 l12 c12, .slice g12 tm d12]) (show g8 ≠ g9 + 1 by omega)))
                      have X13 := Lib.hid ((X12.out.row (cs' := #[.slice f12 l12 c12, .slice g12 tm d12]) (show g9 ≠ g9 + 1 by omega)))
                      have V13 := Lib.hid ((V12.out.put (cs' := #[.slice f12 l12 c12, .slice g12 tm d12])))
                      have TE13 := Lib.hid ((TE12.out.rowN (g := g9 + 1) (cs := #[.slice f12 l12 c12, .slice g12 tm d12]) (TE12.out.ne_box V12.out (by decide))))
                      have TD13 := Lib.hid ((TD12.out.rowN (g := g9 + 1) (cs := #[.slice f12 l12 c12, .slice g12 tm d12]) (TD12.out.ne_box V12.out (by decide))))
                      have IE13 := Lib.hid ((IE12.out.rowN (g := g9 + 1) (cs := #[.slice f12 l12 c12, .slice g12 tm d12]) (IE12.out.ne_box V12.out (by decide))))
                      have ID13 := Lib.hid ((ID12.out.rowN (g := g9 + 1) (cs := #[.slice f12 l12 c12, .slice g12 tm d12]) (ID12.out.ne_box V12.out (by decide))))
                      have WE13 := Lib.hid ((OE12.out.rowN (g := g9 + 1) (cs := #[.slice f12 l12 c12, .slice g12 tm d12]) (OE12.out.ne_box V12.out (by decide))))
                      have WD13 := Lib.hid ((OD12.out.rowN (g := g9 + 1) (cs := #[.slice f12 l12 c12, .slice g12 tm d12]) (OD12.out.ne_box V12.out (by decide))))
                      have B13 := Lib.hid ((Below.rowB (g := g9 + 1) B12.out (cs := #[.slice f12 l12 c12, .slice g12 tm d12]) (show w.heap.size ≤ g9 + 1 by omega)))
                      obtain ⟨W13, hW13⟩ : ∃ W13, W13 = (w12).setRow (g9 + 1) #[.slice f12 l12 c12, .slice g12 tm d12] := ⟨_, rfl⟩
                      have hs13 : mZ ≤ W13.heap.size := by rw [hW13]; first | exact hs12 | omega | (simp; omega)
                      rw [← hW13] at P13 T13 A13 I13 X13 V13 TE13 TD13 IE13 ID13 WE13 WD13 B13 ⊢
                      clear hW13 P12 T12 A12 I12 X12 V12 TE12 TD12 IE12 ID12 OE12 OD12 B12 hs12
                      have Ic0 := I13.out.get 0 (.slice f7 F.length c7) rfl
                      have Ic1 := I13.out.get 1 (.slice g7 D2.length d7) rfl
                      go_wp2_with ((with_reducible refine atLoad 34 ?_); refine wpList_ldN rfl 34 _ rfl g5 (5) rfl #[.int .i64 x.e.k, .int .i64 x.e.vm, .int .i64 x.e.sp, .bool x.e.al, .int .i64 x.e.pg, .int .i64 x.e.lv, .int .i64 x.e.fr, .int .i64 x.e.mi, .bool x.e.t.r, .bool x.e.t.w, .bool x.e.t.x, .bool x.e.t.a, .bool x.e.t.n, .int .i64 x.e.t.s] Try.underlying34 rfl (by kernel_rfl) ((A13.out).sub 5 _ rfl) ?_)
                      refine (HPX.out _ (IE13.out) (ID13.out)).mono ?_
                      rintro e w14 ⟨f14, l14, c14, g14, m14, d14, rfl, hl14, hm14, hE14, hD14, hb14⟩
                      clear hl14 hm14
                      obtain ⟨bZ, hbZ⟩ : ∃ bZ, bZ = (W13).heap.size := ⟨_, rfl⟩
                      rw [← hbZ] at hE14 hD14
                      have hbZg : mZ ≤ bZ := by omega
                      have HWE := Lib.hid (show ∀ j, (Value.slice f12 l12 c12).ownBlock = some j → j < bZ from by rw [hbZ]; exact (WE13.out).blt)
                      have HWD := Lib.hid (show ∀ j, (Value.slice g12 tm d12).ownBlock = some j → j < bZ from by rw [hbZ]; exact (WD13.out).blt)
                      have hbZz := hb14.size
                      have hsB : bZ ≤ w14.heap.size := by omega
                      clear hbZz hbZ
                      have OE14 := Lib.hid hE14
                      have OD14 := Lib.hid hD14
                      clear hE14 hD14
                      have hz14 := hb14.size
                      have P14 := Lib.hid (P13.out.below hb14)
                      have T14 := Lib.hid (T13.out.below hb14)
                      have A14 := Lib.hid (A13.out.below hb14)
                      have I14 := Lib.hid (I13.out.below hb14)
                      have X14 := Lib.hid (X13.out.below hb14)
                      have V14 := Lib.hid (V13.out.below hb14)
                      have TE14 := Lib.hid (TE13.out.below hb14)
                      have TD14 := Lib.hid (TD13.out.below hb14)
                      have IE14 := Lib.hid (IE13.out.below hb14)
                      have ID14 := Lib.hid (ID13.out.below hb14)
                      have WE14 := Lib.hid (WE13.out.below hb14)
                      have WD14 := Lib.hid (WD13.out.below hb14)
                      have B14 := Lib.hid (bel_trans B13.out hb14)
                      skip
                      have hs14 : mZ ≤ w14.heap.size := by omega
                      clear Ic0 Ic1
                      clear P13 T13 A13 I13 X13 V13 TE13 TD13 IE13 ID13 WE13 WD13 B13 hs13 hb14 hz14
                      go_wp2_with ((with_reducible refine atStore 25 ?_); refine wpList_storeB rfl 25 _ _ rfl (g9) #[.slice f14 l14 c14, .slice g14 m14 d14] _ 25 rfl rfl (by kernel_rfl) (by rfl) (by simp [Value.oneCell']) X14.out ?_)
                      go_meet
                      exact ⟨0, bZ, f14, g14, f12, g12, l14, c14, m14, d14, l12, c12, tm, d12, fill9 F x.e, D2, rfl, rfl, (by omega), (by first | omega | (simp; done) | (simp; omega)), HLX.out, HWE.out, HWD.out, (P14.out.row (cs' := #[.slice f14 l14 c14, .slice g14 m14 d14]) (show g1 ≠ g9 by omega)), (T14.out.row (cs' := #[.slice f14 l14 c14, .slice g14 m14 d14]) (show g4 ≠ g9 by omega)), (I14.out.row (cs' := #[.slice f14 l14 c14, .slice g14 m14 d14]) (show g8 ≠ g9 by omega)), (X14.out.put (cs' := #[.slice f14 l14 c14, .slice g14 m14 d14])), (V14.out.row (cs' := #[.slice f14 l14 c14, .slice g14 m14 d14]) (show g9 + 1 ≠ g9 by omega)), (TE14.out.rowN (g := g9) (cs := #[.slice f14 l14 c14, .slice g14 m14 d14]) (TE14.out.ne_box X14.out (by decide))), (TD14.out.rowN (g := g9) (cs := #[.slice f14 l14 c14, .slice g14 m14 d14]) (TD14.out.ne_box X14.out (by decide))), (IE14.out.rowN (g := g9) (cs := #[.slice f14 l14 c14, .slice g14 m14 d14]) (IE14.out.ne_box X14.out (by decide))), (ID14.out.rowN (g := g9) (cs := #[.slice f14 l14 c14, .slice g14 m14 d14]) (ID14.out.ne_box X14.out (by decide))), (OE14.out.rowN (g := g9) (cs := #[.slice f14 l14 c14, .slice g14 m14 d14]) (OE14.out.ne_box X14.out (by decide))), (OD14.out.rowN (g := g9) (cs := #[.slice f14 l14 c14, .slice g14 m14 d14]) (OD14.out.ne_box X14.out (by decide))), (WE14.out.rowN (g := g9) (cs := #[.slice f14 l14 c14, .slice g14 m14 d14]) (WE14.out.ne_box X14.out (by decide))), (WD14.out.rowN (g := g9) (cs := #[.slice f14 l14 c14, .slice g14 m14 d14]) (WD14.out.ne_box X14.out (by decide))), (Below.rowB (g := g9) B14.out (cs := #[.slice f14 l14 c14, .slice g14 m14 d14]) (show w.heap.size ≤ g9 by omega))⟩
                case rest =>
                  as_aux_lemma =>
                    obtain ⟨bad, bZ, xf, xg, wf, wg, xl, xc, xm, xd, wl, wc, wm, wd, E1, D1, rfl, rfl, hbZg, hsB, HLX, HWE, HWD, Pz, Tz, Iz, Xz, Vz, TEz, TDz, IEz, IDz, XEz, XDz, WEz, WDz, BBz⟩ := hcut
                    skip
                    have HTEt := Lib.hid (show ∀ j, (Value.slice tf tl tc).ownBlock = some j → j < bZ from fun j hj => Nat.lt_of_lt_of_le (HTE8.out j hj) hbZg)
                    have HTDt := Lib.hid (show ∀ j, (Value.slice tg tm td).ownBlock = some j → j < bZ from fun j hj => Nat.lt_of_lt_of_le (HTD8.out j hj) hbZg)
                    have HIEt := Lib.hid (show ∀ j, (Value.slice f7 F.length c7).ownBlock = some j → j < bZ from fun j hj => Nat.lt_of_lt_of_le (HIE8.out j hj) hbZg)
                    have HIDt := Lib.hid (show ∀ j, (Value.slice g7 D2.length d7).ownBlock = some j → j < bZ from fun j hj => Nat.lt_of_lt_of_le (HID8.out j hj) hbZg)
                    clear P9 T9 A9 I9 X9 V9 TE9 TD9 IE9 ID9 B9
                    have hxl : xl ≤ 200 := by have h1 := XEz.out.rows.1; have h2 := HLX.out.1; omega
                    have hxm : xm ≤ 200 := by have h1 := XDz.out.rows.1; have h2 := HLX.out.2; omega
                    have hwl : wl ≤ 200 := by have h1 := WEz.out.rows.1; have h2 := HLX.out.1; omega
                    have hwm : wm ≤ 200 := by have h1 := WDz.out.rows.1; have h2 := HLX.out.2; omega
                    obtain ⟨ck, hck0⟩ : ∃ ck : Int, ck = if mayT F D2 = true then 0 else 1 := ⟨_, rfl⟩
                    have hck := fun W (hE : OwnR KE W w.heap.size (.slice tf tl tc) F) (hD : OwnR KI W w.heap.size (.slice tg tm td) D2) => checkO w.heap.size tf tg tl tc tm td F D2 W hE hD (by omega) (by omega)
                    rw [← hck0] at hck
                    have HCK := Lib.hid hck
                    have hce : (ck == 0) = mt := by have h := HMT.out; rw [hck0]; cases hh : mayT F D2 <;> rw [hh] at h <;> subst h <;> rfl
                    have hbd : (bad != bad) = false := bne_self_eq_false bad
                    clear hck hck0
                    have hmm : (mt != mt) = false := bne_self_eq_false mt
                    have Tc0 := Tz.out.get 0 (.slice tf tl tc) rfl
                    have Tc1 := Tz.out.get 1 (.slice tg tm td) rfl
                    go_wp2_with fail
                    refine (HCK.out _ (TEz.out) (TDz.out)).mono ?_
                    rintro e w11 ⟨rfl, hb11⟩
                    have hz11 := hb11.size
                    have P11 := Lib.hid (Pz.out.below hb11)
                    have T11 := Lib.hid (Tz.out.below hb11)
                    have I11 := Lib.hid (Iz.out.below hb11)
                    have X11 := Lib.hid (Xz.out.below hb11)
                    have V11 := Lib.hid (Vz.out.below hb11)
                    have TE11 := Lib.hid (TEz.out.below hb11)
                    have TD11 := Lib.hid (TDz.out.below hb11)
                    have IE11 := Lib.hid (IEz.out.below hb11)
                    have ID11 := Lib.hid (IDz.out.below hb11)
                    have XE11 := Lib.hid (XEz.out.below hb11)
                    have XD11 := Lib.hid (XDz.out.below hb11)
                    have WE11 := Lib.hid (WEz.out.below hb11)
                    have WD11 := Lib.hid (WDz.out.below hb11)
                    have B11 := Lib.hid (bel_trans BBz.out hb11)
                    skip
                    have hs11 : bZ ≤ w11.heap.size := by omega
                    clear Tc0 Tc1
                    clear Pz Tz Iz Xz Vz TEz TDz IEz IDz XEz XDz WEz WDz BBz hb11 hz11
                    go_wp2_with fail
                    refine (num9_any _ _).mono ?_
                    rintro e w12 ⟨rfl, rfl⟩
                    go_wp2_with fail
                    refine (num9_any _ _).mono ?_
                    rintro e w13 ⟨rfl, rfl⟩
                    have Xc0 := X11.out.get 0 (.slice xf xl xc) rfl
                    have Xc1 := X11.out.get 1 (.slice xg xm xd) rfl
                    have Vc0 := V11.out.get 0 (.slice wf wl wc) rfl
                    have Vc1 := V11.out.get 1 (.slice wg wm wd) rfl
                    go_wp2_with fail
                    refine (eqT_same xf xg wf wg xl xc xm xd wl wc wm wd E1 D1 _ (XE11.out).rows.2 (XE11.out).rows.1 (XD11.out).rows.2 (XD11.out).rows.1 (WE11.out).rows.2 (WE11.out).rows.1 (WD11.out).rows.2 (WD11.out).rows.1 (by omega) (by omega)).mono ?_
                    rintro e w14 ⟨rfl, hb14⟩
                    have hz14 := hb14.size
                    have P14 := Lib.hid (P11.out.below hb14)
                    have T14 := Lib.hid (T11.out.below hb14)
                    have I14 := Lib.hid (I11.out.below hb14)
                    have X14 := Lib.hid (X11.out.below hb14)
                    have V14 := Lib.hid (V11.out.below hb14)
                    have TE14 := Lib.hid (TE11.out.below hb14)
                    have TD14 := Lib.hid (TD11.out.below hb14)
                    have IE14 := Lib.hid (IE11.out.below hb14)
                    have ID14 := Lib.hid (ID11.out.below hb14)
                    have XE14 := Lib.hid (XE11.out.below hb14)
                    have XD14 := Lib.hid (XD11.out.below hb14)
                    have WE14 := Lib.hid (WE11.out.below hb14)
                    have WD14 := Lib.hid (WD11.out.below hb14)
                    have B14 := Lib.hid (bel_trans B11.out hb14)
                    skip
                    have hs14 : bZ ≤ w14.heap.size := by omega
                    clear Xc0 Xc1 Vc0 Vc1
                    clear P11 T11 I11 X11 V11 TE11 TD11 IE11 ID11 XE11 XD11 WE11 WD11 B11 hs11 hb14 hz14
                    have Ic0 := I14.out.get 0 (.slice f7 F.length c7) rfl
                    have Ic1 := I14.out.get 1 (.slice g7 D2.length d7) rfl
                    have Tc0 := T14.out.get 0 (.slice tf tl tc) rfl
                    have Tc1 := T14.out.get 1 (.slice tg tm td) rfl
                    go_wp2_with fail
                    refine (eqT_same f7 g7 tf tg F.length c7 D2.length d7 tl tc tm td F D2 _ (IE14.out).rows.2 (IE14.out).rows.1 (ID14.out).rows.2 (ID14.out).rows.1 (TE14.out).rows.2 (TE14.out).rows.1 (TD14.out).rows.2 (TD14.out).rows.1 (by omega) (by omega)).mono ?_
                    rintro e w15 ⟨rfl, hb15⟩
                    have hz15 := hb15.size
                    have P15 := Lib.hid (P14.out.below hb15)
                    have T15 := Lib.hid (T14.out.below hb15)
                    have I15 := Lib.hid (I14.out.below hb15)
                    have X15 := Lib.hid (X14.out.below hb15)
                    have V15 := Lib.hid (V14.out.below hb15)
                    have TE15 := Lib.hid (TE14.out.below hb15)
                    have TD15 := Lib.hid (TD14.out.below hb15)
                    have IE15 := Lib.hid (IE14.out.below hb15)
                    have ID15 := Lib.hid (ID14.out.below hb15)
                    have XE15 := Lib.hid (XE14.out.below hb15)
                    have XD15 := Lib.hid (XD14.out.below hb15)
                    have WE15 := Lib.hid (WE14.out.below hb15)
                    have WD15 := Lib.hid (WD14.out.below hb15)
                    have B15 := Lib.hid (bel_trans B14.out hb15)
                    skip
                    have hs15 : bZ ≤ w15.heap.size := by omega
                    clear Ic0 Ic1 Tc0 Tc1
                    clear P14 T14 I14 X14 V14 TE14 TD14 IE14 ID14 XE14 XD14 WE14 WD14 B14 hs14 hb15 hz15
                    have Xc0 := X15.out.get 0 (.slice xf xl xc) rfl
                    have Xc1 := X15.out.get 1 (.slice xg xm xd) rfl
                    as_aux_lemma =>
                      go_wp2_with fail
                      refine (spoilT_any bZ xf xg xl xc xm xd E1 D1 _ (XE15.out) (XD15.out) (by omega) (by omega) (by omega)).mono ?_
                      rintro e w16 ⟨rfl, hb16⟩
                      have hz16 := hb16.size
                      clear XE15
                      clear XD15
                      have P16 := Lib.hid (P15.out.under hb16 (show g1 < bZ by omega))
                      have T16 := Lib.hid (T15.out.under hb16 (show g4 < bZ by omega))
                      have I16 := Lib.hid (I15.out.under hb16 (show g8 < bZ by omega))
                      have X16 := Lib.hid (X15.out.under hb16 (show g9 < bZ by omega))
                      have V16 := Lib.hid (V15.out.under hb16 (show g9 + 1 < bZ by omega))
                      have TE16 := Lib.hid (TE15.out.under hb16 HTEt.out)
                      have TD16 := Lib.hid (TD15.out.under hb16 HTDt.out)
                      have IE16 := Lib.hid (IE15.out.under hb16 HIEt.out)
                      have ID16 := Lib.hid (ID15.out.under hb16 HIDt.out)
                      have WE16 := Lib.hid (WE15.out.under hb16 HWE.out)
                      have WD16 := Lib.hid (WD15.out.under hb16 HWD.out)
                      have B16 := Lib.hid (B15.out.trans (hb16.mono (show w.heap.size ≤ bZ by omega)))
                      skip
                      have hs16 : bZ ≤ w16.heap.size := by omega
                      clear Xc0 Xc1
                      clear P15 T15 I15 X15 V15 TE15 TD15 IE15 ID15 WE15 WD15 B15 hs15 hb16 hz16
                      have Ic0 := I16.out.get 0 (.slice f7 F.length c7) rfl
                      have Ic1 := I16.out.get 1 (.slice g7 D2.length d7) rfl
                      have Tc0 := T16.out.get 0 (.slice tf tl tc) rfl
                      have Tc1 := T16.out.get 1 (.slice tg tm td) rfl
                      go_wp2_with fail
                      refine (eqT_same f7 g7 tf tg F.length c7 D2.length d7 tl tc tm td F D2 _ (IE16.out).rows.2 (IE16.out).rows.1 (ID16.out).rows.2 (ID16.out).rows.1 (TE16.out).rows.2 (TE16.out).rows.1 (TD16.out).rows.2 (TD16.out).rows.1 (by omega) (by omega)).mono ?_
                      rintro e w17 ⟨rfl, hb17⟩
                      have hz17 := hb17.size
                      have P17 := Lib.hid (P16.out.below hb17)
                      have T17 := Lib.hid (T16.out.below hb17)
                      have I17 := Lib.hid (I16.out.below hb17)
                      have X17 := Lib.hid (X16.out.below hb17)
                      have V17 := Lib.hid (V16.out.below hb17)
                      have TE17 := Lib.hid (TE16.out.below hb17)
                      have TD17 := Lib.hid (TD16.out.below hb17)
                      have IE17 := Lib.hid (IE16.out.below hb17)
                      have ID17 := Lib.hid (ID16.out.below hb17)
                      have WE17 := Lib.hid (WE16.out.below hb17)
                      have WD17 := Lib.hid (WD16.out.below hb17)
                      have B17 := Lib.hid (bel_trans B16.out hb17)
                      skip
                      have hs17 : bZ ≤ w17.heap.size := by omega
                      clear Ic0 Ic1 Tc0 Tc1
                      clear P16 T16 I16 X16 V16 TE16 TD16 IE16 ID16 WE16 WD16 B16 hs16 hb17 hz17
                      as_aux_lemma =>
                        cases hb0 : decide (bad = 0)
                        · have eb0 : (bad == 0) = false := (beq_int _ _).trans hb0
                          clear hb0
                          go_wp2
                          go_roundw
                          case rel => exact ⟨k + 1, F, D2, tf, tg, tl, tc, tm, td, by omega, by go_num, P17.out, T17.out, TE17.out, TD17.out, HLN.out, B17.out⟩
                          case measure => simp [intOf]; omega
                        have eb0 : (bad == 0) = true := (beq_int _ _).trans hb0
                        clear hb0
                        by_cases hd4 : dd < 4
                        rotate_left
                        · have ed4 : decide (dd < 4) = false := decide_eq_false hd4
                          clear hd4
                          go_wp2
                          go_roundw
                          case rel => exact ⟨k + 1, F, D2, tf, tg, tl, tc, tm, td, by omega, by go_num, P17.out, T17.out, TE17.out, TD17.out, HLN.out, B17.out⟩
                          case measure => simp [intOf]; omega
                        have ed4 : decide (dd < 4) = true := decide_eq_true hd4
                        clear hd4
                        have Vc0 := V17.out.get 0 (.slice wf wl wc) rfl
                        have Vc1 := V17.out.get 1 (.slice wg wm wd) rfl
                        go_wp2_with fail
                        refine (copyT_any wf wg wl wc wm wd E1 D1 _ ((WE17.out).rows.2) ((WE17.out).rows.1) ((WD17.out).rows.2) ((WD17.out).rows.1) (by omega) (by omega)).mono ?_
                        rintro e w18 ⟨f18, c18, g18, d18, rfl, hE18, hD18, hb18⟩
                        have OE18 := Lib.hid (OwnR.mono hE18 (base' := w.heap.size) (by first | omega | (simp; done) | (simp; omega)))
                        have OD18 := Lib.hid (OwnR.mono hD18 (base' := w.heap.size) (by first | omega | (simp; done) | (simp; omega)))
                        clear hE18 hD18
                        have hz18 := hb18.size
                        have P18 := Lib.hid (P17.out.below hb18)
                        have T18 := Lib.hid (T17.out.below hb18)
                        have I18 := Lib.hid (I17.out.below hb18)
                        have X18 := Lib.hid (X17.out.below hb18)
                        have V18 := Lib.hid (V17.out.below hb18)
                        have TE18 := Lib.hid (TE17.out.below hb18)
                        have TD18 := Lib.hid (TD17.out.below hb18)
                        have IE18 := Lib.hid (IE17.out.below hb18)
                        have ID18 := Lib.hid (ID17.out.below hb18)
                        have WE18 := Lib.hid (WE17.out.below hb18)
                        have WD18 := Lib.hid (WD17.out.below hb18)
                        have B18 := Lib.hid (bel_trans B17.out hb18)
                        skip
                        have hs18 : bZ ≤ w18.heap.size := by omega
                        clear Vc0 Vc1
                        clear P17 T17 I17 X17 V17 TE17 TD17 IE17 ID17 WE17 WD17 B17 hs17 hb18 hz18
                        go_upto_region 6 with ((with_reducible refine atStore 25 ?_); refine wpList_storeB rfl 25 _ _ rfl (g4) #[.slice f18 E1.length c18, .slice g18 D1.length d18] _ 25 rfl rfl (by kernel_rfl) (by rfl) (by simp [Value.oneCell']) T18.out ?_)
                        have P19 := Lib.hid ((P18.out.row (cs' := #[.slice f18 E1.length c18, .slice g18 D1.length d18]) (show g1 ≠ g4 by omega)))
                        have T19 := Lib.hid ((T18.out.put (cs' := #[.slice f18 E1.length c18, .slice g18 D1.length d18])))
                        have I19 := Lib.hid ((I18.out.row (cs' := #[.slice f18 E1.length c18, .slice g18 D1.length d18]) (show g8 ≠ g4 by omega)))
                        have X19 := Lib.hid ((X18.out.row (cs' := #[.slice f18 E1.length c18, .slice g18 D1.length d18]) (show g9 ≠ g4 by omega)))
                        have V19 := Lib.hid ((V18.out.row (cs' := #[.slice f18 E1.length c18, .slice g18 D1.length d18]) (show g9 + 1 ≠ g4 by omega)))
                        have TE19 := Lib.hid ((OE18.out.rowN (g := g4) (cs := #[.slice f18 E1.length c18, .slice g18 D1.length d18]) (OE18.out.ne_box T18.out (by decide))))
                        have TD19 := Lib.hid ((OD18.out.rowN (g := g4) (cs := #[.slice f18 E1.length c18, .slice g18 D1.length d18]) (OD18.out.ne_box T18.out (by decide))))
                        have IE19 := Lib.hid ((IE18.out.rowN (g := g4) (cs := #[.slice f18 E1.length c18, .slice g18 D1.length d18]) (IE18.out.ne_box T18.out (by decide))))
                        have ID19 := Lib.hid ((ID18.out.rowN (g := g4) (cs := #[.slice f18 E1.length c18, .slice g18 D1.length d18]) (ID18.out.ne_box T18.out (by decide))))
                        have WE19 := Lib.hid ((WE18.out.rowN (g := g4) (cs := #[.slice f18 E1.length c18, .slice g18 D1.length d18]) (WE18.out.ne_box T18.out (by decide))))
                        have WD19 := Lib.hid ((WD18.out.rowN (g := g4) (cs := #[.slice f18 E1.length c18, .slice g18 D1.length d18]) (WD18.out.ne_box T18.out (by decide))))
                        have B19 := Lib.hid ((Below.rowB (g := g4) B18.out (cs := #[.slice f18 E1.length c18, .slice g18 D1.length d18]) (show w.heap.size ≤ g4 by omega)))
                        obtain ⟨W19, hW19⟩ : ∃ W19, W19 = (w18).setRow (g4) #[.slice f18 E1.length c18, .slice g18 D1.length d18] := ⟨_, rfl⟩
                        have hs19 : bZ ≤ W19.heap.size := by rw [hW19]; first | exact hs18 | omega | (simp; omega)
                        rw [← hW19] at P19 T19 I19 X19 V19 TE19 TD19 IE19 ID19 WE19 WD19 B19 ⊢
                        clear hW19 P18 T18 I18 X18 V18 OE18 OD18 IE18 ID18 WE18 WD18 B18 hs18
                        go_wp2
                        go_roundw
                        case rel => exact ⟨k + 1, E1, D1, f18, g18, E1.length, c18, D1.length, d18, by omega, by go_num, P19.out, T19.out, TE19.out, TD19.out, HLX.out, B19.out⟩
                        case measure => simp [intOf]; omega
        · as_aux_lemma =>
            have d20 : decide ((k : Int) < 20) = false := decide_eq_false (by omega)
            have Pc2 := Pr.out.get 2 (.slice h n kk) rfl
            go_wp2_with fail
            refine (wakes9_any _).mono ?_
            rintro e w5 ⟨rfl, hb5⟩
            have hz5 := hb5.size
            have P5 := Lib.hid (Pr.out.below hb5)
            have T5 := Lib.hid (Tr.out.below hb5)
            have TE5 := Lib.hid (TEr.out.below hb5)
            have TD5 := Lib.hid (TDr.out.below hb5)
            have B5 := Lib.hid (bel_trans Br.out hb5)
            skip
            have hs5 : mr ≤ w5.heap.size := by omega
            clear Pc2
            clear Pr Tr TEr TDr Br hsr hb5 hz5
            go_wp2
            go_ret
            exact ⟨rfl, B5.out⟩
      · as_aux_lemma =>
          have Pc2 := Pr.out.get 2 (.slice h n kk) rfl
          go_wp2_with fail
          refine (wakes9_any _).mono ?_
          rintro e w5 ⟨rfl, hb5⟩
          have hz5 := hb5.size
          have P5 := Lib.hid (Pr.out.below hb5)
          have T5 := Lib.hid (Tr.out.below hb5)
          have TE5 := Lib.hid (TEr.out.below hb5)
          have TD5 := Lib.hid (TDr.out.below hb5)
          have B5 := Lib.hid (bel_trans Br.out hb5)
          skip
          have hs5 : mr ≤ w5.heap.size := by omega
          clear Pc2
          clear Pr Tr TEr TDr Br hsr hb5 hz5
          go_wp2
          go_ret
          exact ⟨rfl, B5.out⟩
  go_wp2
  go_ret
  exact ⟨rfl, B2.out⟩
end Go.Proofs.Ytcbjmpllmnphkaa
