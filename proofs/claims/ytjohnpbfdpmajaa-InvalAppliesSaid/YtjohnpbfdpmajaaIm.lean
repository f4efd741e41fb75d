/- Stage 10: InvalApplies walked. -/
import Derived.Test.YtjohnpbfdpmajaaIe
import Derived.Test.YtjohnpbfdpmajaaIk
import Derived.Test.YtjohnpbfdpmajaaIl
set_option linter.all false
namespace Go.Proofs.Ytjohnpbfdpmajaa
open Go.ChangeShapes Go.WideShapes Go.ChangeAt Go.RowKit Go.Deep Go.Shelf

theorem add_zero_addr (a : Addr) : a.add 0 = a := by
  obtain ⟨b, o, s⟩ := a
  unfold Addr.add
  split <;> simp_all
theorem map_add0 (g : Option Addr) : Option.map (fun x => x.add 0) g = g := by
  cases g with
  | none => rfl
  | some a => simp [add_zero_addr]
theorem allV_take {i : Inv} : ∀ {D : List Inv} {j : Nat}, D[j]? = some i → allV (D.take (j + 1)) = (allV (D.take j) && mayIn i)
  | [], j, h => by simp at h
  | x :: D, 0, h => by
    simp only [List.getElem?_cons_zero, Option.some.injEq] at h
    subst h
    simp [allV]
  | x :: D, j + 1, h => by
    have h2 : D[j]? = some i := by simpa using h
    simp only [List.take_succ_cons, allV]
    rw [allV_take h2, Bool.and_assoc]
theorem own_apart2 {Q Q2 : Type} {K : RowK Q} {K2 : RowK Q2} {w w' : World} {base : Nat} {v v2 : Value} {L : List Q} {M : List Q2} (h1 : OwnR K w base v L) (h2 : OwnR K2 w' w.heap.size v2 M) : v.ownBlock = none ∨ v.ownBlock ≠ v2.ownBlock := by
  cases hv : v.ownBlock with
  | none => exact .inl rfl
  | some k =>
    right
    intro he
    have := h2.blk k he.symm
    have := h1.blt k hv
    omega
theorem OwnR.keptN {Q : Type} {K : RowK Q} {w w' : World} {base : Nat} {v : Value} {L : List Q} {row : Option Nat} (h : OwnR K w base v L) (hg : w.grownBy w' row) (hne : v.ownBlock = none ∨ v.ownBlock ≠ row) : OwnR K w' base v L := World.ownsRow.kept h hg hne
theorem applyR_len {E : List Ety} {D D2 Q2 : List Inv} {Q1 : List Ety} {qc : Int} (h : (Q1, Q2, qc) = applyR E D D2) : Q1.length ≤ E.length ∧ Q2.length ≤ D.length := by
  unfold applyR at h
  split at h
  · simp only [Prod.mk.injEq] at h
    obtain ⟨rfl, rfl, _⟩ := h
    exact ⟨kept_len _ _, Nat.le_refl _⟩
  · simp only [Prod.mk.injEq] at h
    obtain ⟨rfl, rfl, _⟩ := h
    exact ⟨Nat.zero_le _, Nat.zero_le _⟩
theorem laterR_len {E U1 : List Ety} {D U2 : List Inv} {i : Inv} {uc : Int} (h : (U1, U2, uc) = laterR E D i) : U1.length ≤ E.length ∧ U2.length ≤ D.length + 1 := by
  unfold laterR at h
  split at h
  · split at h
    · simp only [Prod.mk.injEq] at h
      obtain ⟨rfl, rfl, _⟩ := h
      exact ⟨Nat.zero_le _, Nat.zero_le _⟩
    · simp only [Prod.mk.injEq] at h
      obtain ⟨rfl, rfl, _⟩ := h
      exact ⟨Nat.le_refl _, by simp⟩
  · simp only [Prod.mk.injEq] at h
    obtain ⟨rfl, rfl, _⟩ := h
    exact ⟨Nat.zero_le _, Nat.zero_le _⟩
theorem later_if {E : List Ety} {D : List Inv} {i : Inv} {o1 o5 l8 : Bool} (h1 : o1 = mayT E D) (h5 : o5 = mayIn i) (h8 : l8 = decide ((D.length : Int) < 8)) :
    laterR E D i = if (o1 && o5) = true then (if l8 = true then (E, D ++ [i], 0) else ([], [], 5)) else ([], [], 1) := by
  unfold laterR
  rw [← h1, ← h5]
  by_cases h : (D.length : Int) < 8
  · have e1 : decide (8 ≤ (D.length : Int)) = false := decide_eq_false (by omega)
    rw [e1, h8, decide_eq_true h]
    rfl
  · have e1 : decide (8 ≤ (D.length : Int)) = true := decide_eq_true (by omega)
    rw [e1, h8, decide_eq_false h]
    rfl
theorem eqV_same (f f2 : Option Addr) (l c l2 c2 : Nat) (L : List Inv) (w : World) (hL : RowsAt KI w f L) (hn : l = L.length) (hM : RowsAt KI w f2 L) (ho : l2 = L.length) (hl : l ≤ 1000000) :
    Calls Try.prog 26 #[.slice f l c, .slice f2 l2 c2] w fun r w' => r = .returned (.bool true) ∧ Below w.heap.size w w' := by
  have := eqV_any f f2 l c l2 c2 L L w hL hn hM ho hl
  simpa using this
set_option maxRecDepth 100000 in
set_option maxHeartbeats 200000000 in
theorem applies_walk (ft g f : Option Addr) (nt ct m d l c : Nat) (T : List Tlh) (D : List Inv) (E : List Ety) (w : World) (hn : nt = T.length) (hn2 : nt ≤ 1000000000000000) (hT : RowsAt KT w ft T) (hTT : ∀ t ∈ T, TlbAt w t) (hD : m = D.length ∧ m ≤ 1000000000000000 ∧ RowsAt KI w g D ∧ (m ≤ d ∧ d ≤ maxLen ∧ (g = none → d = 0))) (hE : l = E.length ∧ l ≤ 1000000000000000 ∧ RowsAt KE w f E) :
    Calls Try.prog 4 #[.agg #[.slice ft nt ct, .slice g m d, .slice f l c]] w fun r w' => r = .returned (.bool true) ∧ Below w.heap.size w w' := by
  have HH := Lib.hid (fun W (hB : Below w.heap.size w W) => heavyC ft g f nt ct m d l c T W hn hn2 hD.2.1 hE.2.1 (hT.below hB) (fun x hx => by obtain ⟨_, _, _, h1, _, _, h2, _⟩ := hTT x hx; exact ⟨h1, h2⟩))
  have HD := Lib.hid hD.2.2.1
  have HO := Lib.hid hD.1
  have HL := Lib.hid hE.2.2
  have HN := Lib.hid hE.1
  have hm2 := hD.2.1
  have hl2 := hE.2.1
  have HDC := Lib.hid hD.2.2.2
  have HT := Lib.hid hT
  have HTN := Lib.hid hn
  have HTT := Lib.hid hTT
  clear hn hT hTT hD hE
  have htw : w.heap.size ≤ w.heap.size := Nat.le_refl _
  have B0 := Lib.hid (Below.refl w.heap.size w)
  go_enter Try.func4, Try.ntmps4
  go_upto_region 1 with fail
  have P1 := Lib.hid ((BoxAt.newAt (w) #[.slice ft nt ct, .slice g m d, .slice f l c] 26 (w.heap.size) (by first | omega | (simp; done) | (simp; omega))))
  have B1 := Lib.hid ((bel_alloc B0.out (.cells #[.slice ft nt ct, .slice g m d, .slice f l c] 26)))
  obtain ⟨g1, hg1⟩ : ∃ g1, g1 = w.heap.size := ⟨_, rfl⟩
  obtain ⟨W1, hW1⟩ : ∃ W1, W1 = (w).alloc (.cells #[.slice ft nt ct, .slice g m d, .slice f l c] 26) := ⟨_, rfl⟩
  have hs1 : g1 + 1 ≤ W1.heap.size := by rw [hW1, hg1]; simp
  rw [← hW1] at P1 B1 ⊢
  have hb1 : w.heap.size ≤ g1 := by omega
  rw [← hg1] at P1 ⊢
  clear hg1
  clear hW1 B0
  have Pc0 := P1.out.get 0 (.slice ft nt ct) rfl
  have Pc1 := P1.out.get 1 (.slice g m d) rfl
  have Pc2 := P1.out.get 2 (.slice f l c) rfl
  go_wp2_with fail
  refine (HH.out _ B1.out).mono ?_
  rintro e w2 hh2
  unfold HeavyEnd at hh2
  obtain ⟨hv, rfl, hvq, hb2⟩ := hh2
  have HVQ := Lib.hid hvq
  clear hvq
  have hz2 := hb2.size
  have P2 := Lib.hid (P1.out.below hb2)
  have B2 := Lib.hid ((bel_trans B1.out hb2))
  skip
  have hs2 : g1 + 1 ≤ w2.heap.size := by omega
  clear Pc0 Pc1 Pc2
  clear P1 B1 hs1 hb2 hz2
  cases hv
  · have HV6 := Lib.hid (show ∀ x ∈ T, x.l ≤ 600 ∧ x.m ≤ 600 from (HVQ.out rfl).2.2.2)
    have hm6 : m ≤ 600 := (HVQ.out rfl).2.1
    go_wp2
    go_loopw [3] (fun i wr => ∃ (k : Nat), k ≤ nt ∧ i = .int .i64 k ∧ Hid (BoxAt wr (g1) #[.slice ft nt ct, .slice g m d, .slice f l c] 26) ∧ Hid (Below w.heap.size w wr)) (fun i _ => nt - (intOf i).toNat)
    case atStart => exact ⟨0, by omega, rfl, P2.out, B2.out⟩
    case round =>
      clear P2 B2
      obtain ⟨k, hkk, rfl, Pr, Br⟩ := hrel
      obtain ⟨mr, hmr⟩ : ∃ mr, mr = wr.heap.size := ⟨_, rfl⟩
      have hgPr : g1 + 1 ≤ mr := by rw [hmr]; exact Pr.out.lt
      have hgwr : w.heap.size ≤ mr := by rw [hmr]; exact Br.out.size
      have hsr : mr ≤ wr.heap.size := by omega
      clear hmr
      by_cases hltk : k < nt
      · have ik0k : (0 : Int) ≤ (k : Int) := by omega
        have ik1k : (k : Int) < (nt : Int) := by omega
        have ikwk : IntKind.i64.wrap ((k : Int) + 1) = (k : Int) + 1 := IntWalk.i64_in _ (by omega)
        by_cases hlik : k < 5
        rotate_left
        · have dlk : decide ((k : Int) < 5) = false := decide_eq_false (by omega)
          have Pc0 := Pr.out.get 0 (.slice ft nt ct) rfl
          go_wp2_with fail
          refine (wakes10_any _).mono ?_
          rintro e w3 ⟨rfl, hb3⟩
          have hz3 := hb3.size
          have P3 := Lib.hid (Pr.out.below hb3)
          have B3 := Lib.hid ((bel_trans Br.out hb3))
          skip
          have hs3 : mr ≤ w3.heap.size := by omega
          clear Pc0
          clear Pr Br hsr hb3 hz3
          go_wp2
          go_ret
          exact ⟨rfl, B3.out⟩
        have dlk : decide ((k : Int) < 5) = true := decide_eq_true (by omega)
        obtain ⟨xt, hxt⟩ := rows_some HTN.out hltk
        obtain ⟨E0, D0, te1, te2, te3, td1, td2, td3, ⟨te4, te5, te6⟩, ⟨td4, td5, td6⟩⟩ := HTT.out xt (List.mem_of_getElem? hxt)
        obtain ⟨t6l, t6m⟩ := HV6.out xt (List.mem_of_getElem? hxt)
        obtain ⟨bt, ot, rfl, hrt⟩ := HT.out k xt hxt
        have HRXT := Lib.hid (show RowAt w bt (ot + k * 2) 2 #[.slice xt.f xt.l xt.c, .slice xt.g xt.m xt.d] from hrt)
        have hbt : bt < w.heap.size := hrt.lt
        clear hrt hxt
        have HTE := Lib.hid te3
        have HTD := Lib.hid td3
        have HE1 := Lib.hid te1
        have HD1 := Lib.hid td1
        have HEF := Lib.hid te6
        have HDF := Lib.hid td6
        clear te1 td1 te2 td2 te3 td3 te6 td6
        have Pc0 := Pr.out.get 0 (.slice (some ⟨bt, ot, none⟩) nt ct) rfl
        go_wp2
        clear Pc0
        go_loopw [4] (fun i wr => ∃ (j : Nat), j ≤ (m + 1) ∧ i = .int .i64 j ∧ Hid (BoxAt wr (g1) #[.slice (some ⟨bt, ot, none⟩) nt ct, .slice g m d, .slice f l c] 26) ∧ Hid (Below w.heap.size w wr)) (fun i _ => (m + 1) - (intOf i).toNat)
        case atStart => exact ⟨0, by omega, rfl, Pr.out, Br.out⟩
        case round =>
          clear Pr Br
          obtain ⟨j, hkj, rfl, Ps, Bs⟩ := hrel
          obtain ⟨ms, hms⟩ : ∃ ms, ms = wr.heap.size := ⟨_, rfl⟩
          have hgPs : g1 + 1 ≤ ms := by rw [hms]; exact Ps.out.lt
          have hgws : w.heap.size ≤ ms := by rw [hms]; exact Bs.out.size
          have hss : ms ≤ wr.heap.size := by omega
          clear hms
          by_cases hltj : j ≤ m
          · have ik0j : (0 : Int) ≤ (j : Int) := by omega
            have ikwj : IntKind.i64.wrap ((j : Int) + 1) = (j : Int) + 1 := IntWalk.i64_in _ (by omega)
            by_cases hlij : j < 12
            rotate_left
            · have dlj : decide ((j : Int) < 12) = false := decide_eq_false (by omega)
              have Pc1 := Ps.out.get 1 (.slice g m d) rfl
              go_wp2
              go_roundw
              case rel => exact ⟨k + 1, by omega, by go_num, Ps.out, Bs.out⟩
              case measure => simp [intOf] <;> omega
            have dlj : decide ((j : Int) < 12) = true := decide_eq_true (by omega)
            have hjm : j ≤ m := hltj
            obtain ⟨DJ, hDJ⟩ : ∃ DJ, DJ = D.take j := ⟨_, rfl⟩
            have HDJ := Lib.hid hDJ
            have HJN := Lib.hid (show j = DJ.length from by rw [hDJ, List.length_take]; have := HO.out; omega)
            have HRJ := Lib.hid (fun W (hB : Below w.heap.size w W) => (show RowsAt KI W g DJ from by rw [hDJ]; exact (HD.out.below hB).take j))
            clear hDJ
            have ijm : (j : Int) ≤ (m : Int) := by omega
            have ijd : (j : Int) ≤ (d : Int) := by have := HDC.out.1; omega
            have hgm := map_add0 g
            have hct := fun W (hB : Below w.heap.size w W) => copyT_any xt.f xt.g xt.l xt.c xt.m xt.d E0 D0 W (HTE.out.below hB) HE1.out (HTD.out.below hB) HD1.out (by omega) (by omega)
            unfold EndT at hct
            rw [← HE1.out, ← HD1.out] at hct
            have HCT := Lib.hid hct
            clear hct
            have HCR := Lib.hid (fun W (hB : Below w.heap.size w W) => copyV_any g j d DJ W (HRJ.out W hB) HJN.out (by omega))
            have hap := fun f1 g1 c1 d1 f2 c2 W (h1 : OwnR KE W w.heap.size (.slice f1 xt.l c1) E0) (h2 : OwnR KI W w.heap.size (.slice g1 xt.m d1) D0) (h3 : OwnR KI W w.heap.size (.slice f2 j c2) DJ) => applyC f1 g1 f2 xt.l c1 xt.m d1 j c2 E0 D0 DJ W h1.rows.2 h1.rows.1 h2.rows.2 h2.rows.1 (by omega) (by omega) h1.fit.1 h1.fit.2.1 h1.fit.2.2 h2.fit.2.2 h3.rows.2 h3.rows.1 (by omega) h3.fit.1 h3.fit.2.1
            obtain ⟨⟨Q1, Q2, qc⟩, hQ⟩ : ∃ q, q = applyR E0 D0 DJ := ⟨_, rfl⟩
            rw [← hQ] at hap
            unfold EndF at hap
            simp only at hap
            have HAP := Lib.hid hap
            have HQ := Lib.hid hQ
            have HQL := Lib.hid (applyR_len hQ)
            clear hap hQ
            have HT9 := Lib.hid (fun W (hB : Below w.heap.size w W) => mayT_any xt.f xt.g xt.l xt.c xt.m xt.d E0 D0 W (HTE.out.below hB) HE1.out (HTD.out.below hB) HD1.out (by omega) (by omega))
            obtain ⟨o1, ho1⟩ : ∃ o1, o1 = mayT E0 D0 := ⟨_, rfl⟩
            rw [← ho1] at HT9
            have HM1 := Lib.hid ho1
            clear ho1
            have hql1 : Q1.length ≤ xt.l := by have := HQL.out.1; have := HE1.out; omega
            have hql2 : Q2.length ≤ xt.m := by have := HQL.out.2; have := HD1.out; omega
            have Pc1 := Ps.out.get 1 (.slice g m d) rfl
            go_upto_region 9 with fail
            clear Pc1
            go_cut [5, 6] (fun s5 s6 wx => ∃ (bN : Nat) (fn : Option Addr) (cn : Nat) (gn : Option Addr) (dn : Nat) (fr : Option Addr) (cr : Nat), s5 = .pointer (some ⟨bN, 0, none⟩) ∧ s6 = .slice fr j cr ∧ ms ≤ bN ∧ Hid (Below wr.heap.size wr wx) ∧ Hid (OwnR KE wx (w.heap.size) (.slice fn xt.l cn) (E0)) ∧ Hid (OwnR KI wx (w.heap.size) (.slice gn xt.m dn) (D0)) ∧ Hid (OwnR KI wx (w.heap.size) (.slice fr j cr) (DJ)) ∧ Hid (BoxAt wx bN #[.slice fn xt.l cn, .slice gn xt.m dn] 43))
            case first =>
              rename_i JJ KK hJJ hKK
              have BZ := Lib.hid (Below.refl wr.heap.size wr)
              refine wp_region_held_drew (S := (fun w' => BoxAt w' (g1) #[.slice (some ⟨bt, ot, none⟩) nt ct, .slice g m d, .slice f l c] 26 ∧ RowAt w' (bt) (ot + k * 2) 2 #[.slice xt.f xt.l xt.c, .slice xt.g xt.m xt.d])) (by kernel_rfl) ⟨Ps.out.drew, (HRXT.out.below Bs.out).drew⟩ (fun hS => ?_)
              refine tkR 0 39 (v := .pointer (some ⟨g1, 0, none⟩)) rfl hS (fun _ _ => by kernel_rfl) ?_
              refine tkR 1 40 (v := .slice (some ⟨bt, ot, none⟩) nt ct) rfl hS (fun _ h => run_ld1 22 (.tmp 39) g1 0 (by kernel_rfl) (by kernel_rfl) Try.underlying22 rfl ((h.1).get 0 (.slice (some ⟨bt, ot, none⟩) nt ct) rfl)) ?_
              refine tkR 2 41 (v := .int .i64 k) rfl hS (fun _ _ => by kernel_rfl) ?_
              refine tkR 3 42 (v := .pointer (some ⟨bt, ot + k * 2, none⟩)) rfl hS (fun _ _ => run_ixN 22 43 (.tmp 40) (.tmp 41) bt ot nt ct k 2 (by kernel_rfl) (by kernel_rfl) (by kernel_rfl) Try.underlying22 (by kernel_rfl) hltk) ?_
              refine tkR 4 43 (v := .agg #[.slice xt.f xt.l xt.c, .slice xt.g xt.m xt.d]) rfl hS (fun _ h => run_ldN 43 (.tmp 42) bt (ot + k * 2) (by kernel_rfl) (by kernel_rfl) Try.underlying43 rfl (by kernel_rfl) ((h.2).sub 0 _ rfl (Nat.le_of_ble_eq_true rfl))) ?_
              refine tkR 6 45 (v := .pointer (some ⟨g1, 1, none⟩)) rfl hS (fun _ _ => by kernel_rfl) ?_
              refine tkR 7 46 (v := .slice g m d) rfl hS (fun _ h => run_ld1 23 (.tmp 45) g1 1 (by kernel_rfl) (by kernel_rfl) Try.underlying23 rfl ((h.1).get 1 (.slice g m d) rfl)) ?_
              refine tkR 8 47 (v := .int .i64 j) rfl hS (fun _ _ => by kernel_rfl) ?_
              try simp only [Act.put, List.setIfInBounds_toArray, List.set_cons_zero, List.set_cons_succ]
              refine wpAnyH_take (i := 9) (oi := ⟨some 48, _, _, _, _, _⟩) (v := ?_) rfl (by kernel_rfl) (by kernel_rfl) (by kernel_rfl) (fun _ _ _ h => h) (Or.inl ⟨by rfl, ?_⟩) hS ?_
              rotate_left
              · (intro w' hSw; clear hSw; go_simp; try with_reducible rfl)
              simp only [Act.put, List.setIfInBounds_toArray, List.set_cons_zero, List.set_cons_succ]
              try simp only [Act.put, List.setIfInBounds_toArray, List.set_cons_zero, List.set_cons_succ]
              refine wpAnyH_ready (rs := [5, 11]) (by kernel_rfl) (by simp) ?_
              refine AllReadyH.cons (o := ⟨some 44, _, _, _, _, _⟩) rfl (fun K hK => ?_) ?_
              · go_simp
                refine (HCT.out _ (Below.drew Bs.out)).mono ?_
                rintro e w4 ⟨fn, cn, gn, dn, rfl, hEn, hDn, hb4⟩
                have hz4 := hb4.size
                try simp at hz4
                refine hK.out _ _ ?_ (fun hS' => ?_)
                · exact ⟨hS.1.below hb4, hS.2.below hb4⟩
                clear hK K hS
                have hS := hS'
                clear hS'
                try simp only [Act.put, List.setIfInBounds_toArray, List.set_cons_zero, List.set_cons_succ]
                try simp only [Act.put, List.setIfInBounds_toArray, List.set_cons_zero, List.set_cons_succ]
                refine wpAnyH_ready (rs := [10, 11]) (by kernel_rfl) (by simp) ?_
                refine AllReadyH.cons (o := ⟨some 49, _, _, _, _, _⟩) rfl (fun K hK => ?_) ?_
                · go_simp
                  refine (HCR.out _ (bel_trans (Below.drew Bs.out) hb4)).mono ?_
                  rintro e w5 ⟨fr, cr, rfl, hRr, hb5⟩
                  have hz5 := hb5.size
                  try simp at hz5
                  refine hK.out _ _ ?_ (fun hS' => ?_)
                  · exact ⟨hS.1.below hb5, hS.2.below hb5⟩
                  clear hK K hS
                  have hS := hS'
                  clear hS'
                  try simp only [Act.put, List.setIfInBounds_toArray, List.set_cons_zero, List.set_cons_succ]
                  try simp only [Act.put, List.setIfInBounds_toArray, List.set_cons_zero, List.set_cons_succ]
                  refine wpAnyH_ready (rs := [11]) (by kernel_rfl) (by simp) ?_
                  refine AllReadyH.cons (o := ⟨some 5, _, _, _, _, _⟩) rfl (fun K hK => ?_) AllReadyH.nil
                  go_simp
                  refine hK.out _ _ ?_ (fun hS' => ?_)
                  · exact ⟨hS.1.alloc _, hS.2.alloc _⟩
                  clear hK K hS
                  have hS := hS'
                  clear hS'
                  try simp only [Act.put, List.setIfInBounds_toArray, List.set_cons_zero, List.set_cons_succ]
                  try simp only [Act.put, List.setIfInBounds_toArray, List.set_cons_zero, List.set_cons_succ]
                  refine wpAnyH_ready (rs := [12]) (by kernel_rfl) (by simp) ?_
                  refine AllReadyH.cons (o := ⟨none, _, _, _, _, _⟩) rfl (fun K hK => ?_) AllReadyH.nil
                  refine step_storeB rfl 43 _ _ rfl _ _ _ 43 rfl rfl (by kernel_rfl) (by rfl) (by simp [Value.oneCell']) (BoxAt.newAt (w5) #[.slice none 0 0, .slice none 0 0] 43 (w5.heap.size) (by first | omega | (simp; done) | (simp; omega))) ?_
                  refine hK.out _ _ ?_ (fun hS' => ?_)
                  · exact ⟨hS.1.row (show g1 ≠ w5.heap.size by omega), hS.2.row (show bt ≠ w5.heap.size by omega)⟩
                  clear hK K hS
                  have hS := hS'
                  clear hS'
                  try simp only [Act.put]
                  refine tkR 13 6 (v := .slice fr j cr) rfl hS (fun _ _ => by kernel_rfl) ?_
                  refine wpAnyH_done (by kernel_rfl) ?_ _
                  try simp only [Act.put, List.setIfInBounds_toArray, List.set_cons_zero, List.set_cons_succ]
                  show KK _ _
                  refine hKK _ _ (Met.intro (hJJ _ _ ?_))
                  (repeat apply Exists.intro)
                  refine ⟨?_, rfl⟩
                  refine ⟨w5.heap.size, fn, cn, gn, dn, fr, cr, rfl, rfl, (by omega), (Below.rowB (g := w5.heap.size) (bel_alloc (bel_trans (bel_trans (Below.drew BZ.out) hb4) hb5) (.cells #[.slice none 0 0, .slice none 0 0] 43)) (cs := #[.slice fn xt.l cn, .slice gn xt.m dn]) (show wr.heap.size ≤ w5.heap.size by omega)), ((((OwnR.mono hEn (base' := w.heap.size) (by first | omega | (simp; done) | (simp; omega))).below hb5).alloc (.cells #[.slice none 0 0, .slice none 0 0] 43)).rowN (cs := #[.slice fn xt.l cn, .slice gn xt.m dn]) (fun he => absurd (hEn.blt _ he) (by first | omega | (simp; omega)))), ((((OwnR.mono hDn (base' := w.heap.size) (by first | omega | (simp; done) | (simp; omega))).below hb5).alloc (.cells #[.slice none 0 0, .slice none 0 0] 43)).rowN (cs := #[.slice fn xt.l cn, .slice gn xt.m dn]) (fun he => absurd (hDn.blt _ he) (by first | omega | (simp; omega)))), (((OwnR.mono hRr (base' := w.heap.size) (by first | omega | (simp; done) | (simp; omega))).alloc (.cells #[.slice none 0 0, .slice none 0 0] 43)).rowN (cs := #[.slice fn xt.l cn, .slice gn xt.m dn]) (fun he => absurd (hRr.blt _ he) (by first | omega | (simp; omega)))), ((BoxAt.newAt (w5) #[.slice none 0 0, .slice none 0 0] 43 (w5.heap.size) (by first | omega | (simp; done) | (simp; omega))).put (cs' := #[.slice fn xt.l cn, .slice gn xt.m dn]))⟩
                refine AllReadyH.cons (o := ⟨some 5, _, _, _, _, _⟩) rfl (fun K hK => ?_) AllReadyH.nil
                go_simp
                refine hK.out _ _ ?_ (fun hS' => ?_)
                · exact ⟨hS.1.alloc _, hS.2.alloc _⟩
                clear hK K hS
                have hS := hS'
                clear hS'
                try simp only [Act.put, List.setIfInBounds_toArray, List.set_cons_zero, List.set_cons_succ]
                try simp only [Act.put, List.setIfInBounds_toArray, List.set_cons_zero, List.set_cons_succ]
                refine wpAnyH_ready (rs := [10]) (by kernel_rfl) (by simp) ?_
                refine AllReadyH.cons (o := ⟨some 49, _, _, _, _, _⟩) rfl (fun K hK => ?_) AllReadyH.nil
                go_simp
                refine (HCR.out _ (bel_alloc (bel_trans (Below.drew Bs.out) hb4) (.cells #[.slice none 0 0, .slice none 0 0] 43))).mono ?_
                rintro e w5 ⟨fr, cr, rfl, hRr, hb5⟩
                have hz5 := hb5.size
                try simp at hz5
                refine hK.out _ _ ?_ (fun hS' => ?_)
                · exact ⟨hS.1.below hb5, hS.2.below hb5⟩
                clear hK K hS
                have hS := hS'
                clear hS'
                try simp only [Act.put, List.setIfInBounds_toArray, List.set_cons_zero, List.set_cons_succ]
                try simp only [Act.put, List.setIfInBounds_toArray, List.set_cons_zero, List.set_cons_succ]
                refine wpAnyH_ready (rs := [12]) (by kernel_rfl) (by simp) ?_
                refine AllReadyH.cons (o := ⟨none, _, _, _, _, _⟩) rfl (fun K hK => ?_) AllReadyH.nil
                refine step_storeB rfl 43 _ _ rfl _ _ _ 43 rfl rfl (by kernel_rfl) (by rfl) (by simp [Value.oneCell']) ((BoxAt.newAt (w4) #[.slice none 0 0, .slice none 0 0] 43 (w4.heap.size) (by first | omega | (simp; done) | (simp; omega))).below hb5) ?_
                refine hK.out _ _ ?_ (fun hS' => ?_)
                · exact ⟨hS.1.row (show g1 ≠ w4.heap.size by omega), hS.2.row (show bt ≠ w4.heap.size by omega)⟩
                clear hK K hS
                have hS := hS'
                clear hS'
                try simp only [Act.put]
                refine tkR 13 6 (v := .slice fr j cr) rfl hS (fun _ _ => by kernel_rfl) ?_
                refine wpAnyH_done (by kernel_rfl) ?_ _
                try simp only [Act.put, List.setIfInBounds_toArray, List.set_cons_zero, List.set_cons_succ]
                show KK _ _
                refine hKK _ _ (Met.intro (hJJ _ _ ?_))
                (repeat apply Exists.intro)
                refine ⟨?_, rfl⟩
                refine ⟨w4.heap.size, fn, cn, gn, dn, fr, cr, rfl, rfl, (by omega), (Below.rowB (g := w4.heap.size) (bel_trans (bel_alloc (bel_trans (Below.drew BZ.out) hb4) (.cells #[.slice none 0 0, .slice none 0 0] 43)) hb5) (cs := #[.slice fn xt.l cn, .slice gn xt.m dn]) (show wr.heap.size ≤ w4.heap.size by omega)), ((((OwnR.mono hEn (base' := w.heap.size) (by first | omega | (simp; done) | (simp; omega))).alloc (.cells #[.slice none 0 0, .slice none 0 0] 43)).below hb5).rowN (cs := #[.slice fn xt.l cn, .slice gn xt.m dn]) (fun he => absurd (hEn.blt _ he) (by first | omega | (simp; omega)))), ((((OwnR.mono hDn (base' := w.heap.size) (by first | omega | (simp; done) | (simp; omega))).alloc (.cells #[.slice none 0 0, .slice none 0 0] 43)).below hb5).rowN (cs := #[.slice fn xt.l cn, .slice gn xt.m dn]) (fun he => absurd (hDn.blt _ he) (by first | omega | (simp; omega)))), ((OwnR.mono hRr (base' := w.heap.size) (by first | omega | (simp; done) | (simp; omega))).rowN (cs := #[.slice fn xt.l cn, .slice gn xt.m dn]) (hRr.ne_box ((BoxAt.newAt (w4) #[.slice none 0 0, .slice none 0 0] 43 (w4.heap.size) (by first | omega | (simp; done) | (simp; omega))).below hb5) (by decide))), (((BoxAt.newAt (w4) #[.slice none 0 0, .slice none 0 0] 43 (w4.heap.size) (by first | omega | (simp; done) | (simp; omega))).below hb5).put (cs' := #[.slice fn xt.l cn, .slice gn xt.m dn]))⟩
              refine AllReadyH.cons (o := ⟨some 5, _, _, _, _, _⟩) rfl (fun K hK => ?_) AllReadyH.nil
              go_simp
              refine hK.out _ _ ?_ (fun hS' => ?_)
              · exact ⟨hS.1.alloc _, hS.2.alloc _⟩
              clear hK K hS
              have hS := hS'
              clear hS'
              try simp only [Act.put, List.setIfInBounds_toArray, List.set_cons_zero, List.set_cons_succ]
              try simp only [Act.put, List.setIfInBounds_toArray, List.set_cons_zero, List.set_cons_succ]
              refine wpAnyH_ready (rs := [5]) (by kernel_rfl) (by simp) ?_
              refine AllReadyH.cons (o := ⟨some 44, _, _, _, _, _⟩) rfl (fun K hK => ?_) AllReadyH.nil
              go_simp
              refine (HCT.out _ (bel_alloc (Below.drew Bs.out) (.cells #[.slice none 0 0, .slice none 0 0] 43))).mono ?_
              rintro e w4 ⟨fn, cn, gn, dn, rfl, hEn, hDn, hb4⟩
              have hz4 := hb4.size
              try simp at hz4
              refine hK.out _ _ ?_ (fun hS' => ?_)
              · exact ⟨hS.1.below hb4, hS.2.below hb4⟩
              clear hK K hS
              have hS := hS'
              clear hS'
              try simp only [Act.put, List.setIfInBounds_toArray, List.set_cons_zero, List.set_cons_succ]
              try simp only [Act.put, List.setIfInBounds_toArray, List.set_cons_zero, List.set_cons_succ]
              refine wpAnyH_ready (rs := [10]) (by kernel_rfl) (by simp) ?_
              refine AllReadyH.cons (o := ⟨some 49, _, _, _, _, _⟩) rfl (fun K hK => ?_) AllReadyH.nil
              go_simp
              refine (HCR.out _ (bel_trans (bel_alloc (Below.drew Bs.out) (.cells #[.slice none 0 0, .slice none 0 0] 43)) hb4)).mono ?_
              rintro e w5 ⟨fr, cr, rfl, hRr, hb5⟩
              have hz5 := hb5.size
              try simp at hz5
              refine hK.out _ _ ?_ (fun hS' => ?_)
              · exact ⟨hS.1.below hb5, hS.2.below hb5⟩
              clear hK K hS
              have hS := hS'
              clear hS'
              try simp only [Act.put, List.setIfInBounds_toArray, List.set_cons_zero, List.set_cons_succ]
              try simp only [Act.put, List.setIfInBounds_toArray, List.set_cons_zero, List.set_cons_succ]
              refine wpAnyH_ready (rs := [12]) (by kernel_rfl) (by simp) ?_
              refine AllReadyH.cons (o := ⟨none, _, _, _, _, _⟩) rfl (fun K hK => ?_) AllReadyH.nil
              refine step_storeB rfl 43 _ _ rfl _ _ _ 43 rfl rfl (by kernel_rfl) (by rfl) (by simp [Value.oneCell']) (((BoxAt.newAt ((wr).drew) #[.slice none 0 0, .slice none 0 0] 43 (wr.heap.size) (by first | omega | (simp; done) | (simp; omega))).below hb4).below hb5) ?_
              refine hK.out _ _ ?_ (fun hS' => ?_)
              · exact ⟨hS.1.row (show g1 ≠ wr.heap.size by omega), hS.2.row (show bt ≠ wr.heap.size by omega)⟩
              clear hK K hS
              have hS := hS'
              clear hS'
              try simp only [Act.put]
              refine tkR 13 6 (v := .slice fr j cr) rfl hS (fun _ _ => by kernel_rfl) ?_
              refine wpAnyH_done (by kernel_rfl) ?_ _
              try simp only [Act.put, List.setIfInBounds_toArray, List.set_cons_zero, List.set_cons_succ]
              show KK _ _
              refine hKK _ _ (Met.intro (hJJ _ _ ?_))
              (repeat apply Exists.intro)
              refine ⟨?_, rfl⟩
              refine ⟨wr.heap.size, fn, cn, gn, dn, fr, cr, rfl, rfl, (by omega), (Below.rowB (g := wr.heap.size) (bel_trans (bel_trans (bel_alloc (Below.drew BZ.out) (.cells #[.slice none 0 0, .slice none 0 0] 43)) hb4) hb5) (cs := #[.slice fn xt.l cn, .slice gn xt.m dn]) (show wr.heap.size ≤ wr.heap.size by omega)), (((OwnR.mono hEn (base' := w.heap.size) (by first | omega | (simp; done) | (simp; omega))).below hb5).rowN (cs := #[.slice fn xt.l cn, .slice gn xt.m dn]) (hEn.ne_box ((BoxAt.newAt ((wr).drew) #[.slice none 0 0, .slice none 0 0] 43 (wr.heap.size) (by first | omega | (simp; done) | (simp; omega))).below hb4) (by decide))), (((OwnR.mono hDn (base' := w.heap.size) (by first | omega | (simp; done) | (simp; omega))).below hb5).rowN (cs := #[.slice fn xt.l cn, .slice gn xt.m dn]) (hDn.ne_box ((BoxAt.newAt ((wr).drew) #[.slice none 0 0, .slice none 0 0] 43 (wr.heap.size) (by first | omega | (simp; done) | (simp; omega))).below hb4) (by decide))), ((OwnR.mono hRr (base' := w.heap.size) (by first | omega | (simp; done) | (simp; omega))).rowN (cs := #[.slice fn xt.l cn, .slice gn xt.m dn]) (hRr.ne_box (((BoxAt.newAt ((wr).drew) #[.slice none 0 0, .slice none 0 0] 43 (wr.heap.size) (by first | omega | (simp; done) | (simp; omega))).below hb4).below hb5) (by decide))), ((((BoxAt.newAt ((wr).drew) #[.slice none 0 0, .slice none 0 0] 43 (wr.heap.size) (by first | omega | (simp; done) | (simp; omega))).below hb4).below hb5).put (cs' := #[.slice fn xt.l cn, .slice gn xt.m dn]))⟩
            case rest =>
            obtain ⟨bN, fn, cn, gn, dn, fr, cr, rfl, rfl, hbN3, QB3, QNNE3, QNND3, QNRW3, QbN3⟩ := hcut
            obtain ⟨w3c, rfl⟩ : ∃ w3c : World, w3c = wc := ⟨_, rfl⟩
            have hz3 := QB3.out.size
            have P3 := Lib.hid (Ps.out.below QB3.out)
            have B3 := Lib.hid (bel_trans Bs.out QB3.out)
            obtain ⟨m3, hm3⟩ : ∃ m3, m3 = w3c.heap.size := ⟨_, rfl⟩
            have hbm3 : ms ≤ m3 := by omega
            have hlN3 : bN + 1 ≤ m3 := by rw [hm3]; exact QbN3.out.lt
            have hs3 : m3 ≤ w3c.heap.size := by omega
            clear hm3 hz3 Ps Bs QB3 hss
            have Nc0 := QbN3.out.get 0 (.slice fn xt.l cn) rfl
            have Nc1 := QbN3.out.get 1 (.slice gn xt.m dn) rfl
            go_wp2_with fail
            refine (HAP.out fn gn cn dn fr cr _ QNNE3.out QNND3.out QNRW3.out).mono ?_
            rintro e w4 ⟨fx, lx, cx, gx, mx, dx, rfl, hlx, hmx, hEx, hDx, hb4⟩
            have HAE := Lib.hid (own_apart2 QNNE3.out hEx)
            have HAD := Lib.hid (own_apart2 QNND3.out hDx)
            have OXE := Lib.hid (OwnR.mono hEx (base' := w.heap.size) (by first | omega | (simp; done) | (simp; omega)))
            have OXD := Lib.hid (OwnR.mono hDx (base' := w.heap.size) (by first | omega | (simp; done) | (simp; omega)))
            have HLX := Lib.hid hlx
            have HMX := Lib.hid hmx
            have hlx6 : lx ≤ 600 := by omega
            have hmx6 : mx ≤ 600 := by omega
            clear hlx hmx hEx hDx
            have hz4 := hb4.size
            have P4 := Lib.hid (P3.out.below hb4)
            have N4 := Lib.hid (QbN3.out.below hb4)
            have NE4 := Lib.hid (QNNE3.out.below hb4)
            have ND4 := Lib.hid (QNND3.out.below hb4)
            have RW4 := Lib.hid (QNRW3.out.below hb4)
            have B4 := Lib.hid ((bel_trans B3.out hb4))
            skip
            have hs4 : m3 ≤ w4.heap.size := by omega
            clear Nc0 Nc1
            clear P3 QbN3 QNNE3 QNND3 QNRW3 B3 hs3 hb4 hz4
            go_upto_region 11 with fail
            have P5 := Lib.hid ((P4.out.alloc (.cells #[.slice fx lx cx, .slice gx mx dx] 43)))
            have N5 := Lib.hid ((N4.out.alloc (.cells #[.slice fx lx cx, .slice gx mx dx] 43)))
            have X5 := Lib.hid ((BoxAt.newAt (w4) #[.slice fx lx cx, .slice gx mx dx] 43 (w4.heap.size) (by first | omega | (simp; done) | (simp; omega))))
            have NE5 := Lib.hid ((NE4.out.alloc (.cells #[.slice fx lx cx, .slice gx mx dx] 43)))
            have ND5 := Lib.hid ((ND4.out.alloc (.cells #[.slice fx lx cx, .slice gx mx dx] 43)))
            have RW5 := Lib.hid ((RW4.out.alloc (.cells #[.slice fx lx cx, .slice gx mx dx] 43)))
            have XE5 := Lib.hid ((OXE.out.alloc (.cells #[.slice fx lx cx, .slice gx mx dx] 43)))
            have XD5 := Lib.hid ((OXD.out.alloc (.cells #[.slice fx lx cx, .slice gx mx dx] 43)))
            have B5 := Lib.hid ((bel_alloc B4.out (.cells #[.slice fx lx cx, .slice gx mx dx] 43)))
            obtain ⟨g5, hg5⟩ : ∃ g5, g5 = w4.heap.size := ⟨_, rfl⟩
            obtain ⟨W5, hW5⟩ : ∃ W5, W5 = (w4).alloc (.cells #[.slice fx lx cx, .slice gx mx dx] 43) := ⟨_, rfl⟩
            have hs5 : g5 + 1 ≤ W5.heap.size := by rw [hW5, hg5]; simp
            rw [← hW5] at P5 N5 X5 NE5 ND5 RW5 XE5 XD5 B5 ⊢
            have hb5 : m3 ≤ g5 := by omega
            rw [← hg5] at X5 ⊢
            clear hg5
            clear hW5 P4 N4 NE4 ND4 RW4 OXE OXD B4 hs4
            go_upto_region 12 with fail
            have P6 := Lib.hid ((P5.out.alloc (.cells #[.slice none 0 0, .slice none 0 0] 43)))
            have N6 := Lib.hid ((N5.out.alloc (.cells #[.slice none 0 0, .slice none 0 0] 43)))
            have X6 := Lib.hid ((X5.out.alloc (.cells #[.slice none 0 0, .slice none 0 0] 43)))
            have V6 := Lib.hid ((BoxAt.newAt (W5) #[.slice none 0 0, .slice none 0 0] 43 (W5.heap.size) (by first | omega | (simp; done) | (simp; omega))))
            have NE6 := Lib.hid ((NE5.out.alloc (.cells #[.slice none 0 0, .slice none 0 0] 43)))
            have ND6 := Lib.hid ((ND5.out.alloc (.cells #[.slice none 0 0, .slice none 0 0] 43)))
            have RW6 := Lib.hid ((RW5.out.alloc (.cells #[.slice none 0 0, .slice none 0 0] 43)))
            have XE6 := Lib.hid ((XE5.out.alloc (.cells #[.slice none 0 0, .slice none 0 0] 43)))
            have XD6 := Lib.hid ((XD5.out.alloc (.cells #[.slice none 0 0, .slice none 0 0] 43)))
            have B6 := Lib.hid ((bel_alloc B5.out (.cells #[.slice none 0 0, .slice none 0 0] 43)))
            obtain ⟨g6, hg6⟩ : ∃ g6, g6 = W5.heap.size := ⟨_, rfl⟩
            obtain ⟨W6, hW6⟩ : ∃ W6, W6 = (W5).alloc (.cells #[.slice none 0 0, .slice none 0 0] 43) := ⟨_, rfl⟩
            have hs6 : g6 + 1 ≤ W6.heap.size := by rw [hW6, hg6]; simp
            rw [← hW6] at P6 N6 X6 V6 NE6 ND6 RW6 XE6 XD6 B6 ⊢
            have hb6 : g5 + 1 ≤ g6 := by omega
            rw [← hg6] at V6 ⊢
            clear hg6
            clear hW6 P5 N5 X5 NE5 ND5 RW5 XE5 XD5 B5 hs5
            have Pc0 := P6.out.get 0 (.slice (some ⟨bt, ot, none⟩) nt ct) rfl
            have yXT := (HRXT.out.below B6.out)
            have yXT0 := yXT.get0 (.slice xt.f xt.l xt.c) (by decide) rfl
            have yXT1 := yXT.get 1 (.slice xt.g xt.m xt.d) (by decide) rfl
            clear yXT
            go_wp2_with fail
            refine (HT9.out _ B6.out).mono ?_
            rintro e w7 ⟨rfl, hb7⟩
            have hz7 := hb7.size
            have P7 := Lib.hid (P6.out.below hb7)
            have N7 := Lib.hid (N6.out.below hb7)
            have X7 := Lib.hid (X6.out.below hb7)
            have V7 := Lib.hid (V6.out.below hb7)
            have NE7 := Lib.hid (NE6.out.below hb7)
            have ND7 := Lib.hid (ND6.out.below hb7)
            have RW7 := Lib.hid (RW6.out.below hb7)
            have XE7 := Lib.hid (XE6.out.below hb7)
            have XD7 := Lib.hid (XD6.out.below hb7)
            have B7 := Lib.hid ((bel_trans B6.out hb7))
            skip
            have hs7 : g6 + 1 ≤ w7.heap.size := by omega
            clear Pc0 yXT0 yXT1
            clear P6 N6 X6 V6 NE6 ND6 RW6 XE6 XD6 B6 hs6 hb7 hz7
            have HMA := Lib.hid (show (o1 && allV (DJ.take 0)) = o1 from by simp [allV])
            go_wp2
            go_loopw [12, 11] (fun i i0 wr => ∃ (u : Nat) (ma : Bool), u ≤ j ∧ i = .int .i64 u ∧ i0 = .bool ma ∧ Hid (BoxAt wr (g1) #[.slice (some ⟨bt, ot, none⟩) nt ct, .slice g m d, .slice f l c] 26) ∧ Hid (BoxAt wr (bN) #[.slice fn xt.l cn, .slice gn xt.m dn] 43) ∧ Hid (BoxAt wr (g5) #[.slice fx lx cx, .slice gx mx dx] 43) ∧ Hid (BoxAt wr (g6) #[.slice none 0 0, .slice none 0 0] 43) ∧ Hid (Below w.heap.size w wr) ∧ Hid (OwnR KE wr (w.heap.size) (.slice fn xt.l cn) (E0)) ∧ Hid (OwnR KI wr (w.heap.size) (.slice gn xt.m dn) (D0)) ∧ Hid (OwnR KI wr (w.heap.size) (.slice fr j cr) (DJ)) ∧ Hid (OwnR KE wr (w.heap.size) (.slice fx lx cx) (Q1)) ∧ Hid (OwnR KI wr (w.heap.size) (.slice gx mx dx) (Q2)) ∧ Hid ((o1 && allV (DJ.take u)) = ma)) (fun i _ _ => j - (intOf i).toNat)
            case atStart => exact ⟨0, o1, by omega, rfl, rfl, P7.out, N7.out, X7.out, V7.out, B7.out, NE7.out, ND7.out, RW7.out, XE7.out, XD7.out, HMA⟩
            case round =>
              clear P7 N7 X7 V7 NE7 ND7 RW7 XE7 XD7 B7 HMA
              obtain ⟨u, ma, hku, rfl, rfl, Pt, Nt, Xt, Vt, Bt, NEt, NDt, RWt, XEt, XDt, HMA⟩ := hrel
              obtain ⟨mt, hmt⟩ : ∃ mt, mt = wr.heap.size := ⟨_, rfl⟩
              have hgPt : g1 + 1 ≤ mt := by rw [hmt]; exact Pt.out.lt
              have hgNt : bN + 1 ≤ mt := by rw [hmt]; exact Nt.out.lt
              have hgXt : g5 + 1 ≤ mt := by rw [hmt]; exact Xt.out.lt
              have hgVt : g6 + 1 ≤ mt := by rw [hmt]; exact Vt.out.lt
              have hgwt : w.heap.size ≤ mt := by rw [hmt]; exact Bt.out.size
              have HBNEt := Lib.hid (show ∀ jB, (.slice fn xt.l cn : Value).ownBlock = some jB → jB < mt from by rw [hmt]; exact NEt.out.blt)
              have HBNDt := Lib.hid (show ∀ jB, (.slice gn xt.m dn : Value).ownBlock = some jB → jB < mt from by rw [hmt]; exact NDt.out.blt)
              have HBRWt := Lib.hid (show ∀ jB, (.slice fr j cr : Value).ownBlock = some jB → jB < mt from by rw [hmt]; exact RWt.out.blt)
              have HBXEt := Lib.hid (show ∀ jB, (.slice fx lx cx : Value).ownBlock = some jB → jB < mt from by rw [hmt]; exact XEt.out.blt)
              have HBXDt := Lib.hid (show ∀ jB, (.slice gx mx dx : Value).ownBlock = some jB → jB < mt from by rw [hmt]; exact XDt.out.blt)
              have hst : mt ≤ wr.heap.size := by omega
              clear hmt
              by_cases hltu : u < j
              · have ik0u : (0 : Int) ≤ (u : Int) := by omega
                have ik1u : (u : Int) < (j : Int) := by omega
                have ikwu : IntKind.i64.wrap ((u : Int) + 1) = (u : Int) + 1 := IntWalk.i64_in _ (by omega)
                have him : u < m := by omega
                have im0 : (u : Int) < (m : Int) := by omega
                obtain ⟨xq, hxq⟩ := rows_some HO.out him
                have HXq := Lib.hid hxq
                obtain ⟨bq, oq, hgq, hrq⟩ := HD.out u xq hxq
                have HRqI := Lib.hid (show RowAt w bq (oq + u * 4) 4 #[.int .i64 xq.k, .int .i64 xq.vm, .int .i64 xq.sp, .int .i64 xq.pg] from hrq)
                have hbq : bq < w.heap.size := hrq.lt
                clear hrq hxq
                subst hgq
                have HI9 := Lib.hid (fun W => inval9_any xq W)
                have HSV := Lib.hid (show allV (DJ.take (u + 1)) = (allV (DJ.take u) && mayIn xq) from allV_take (by rw [HDJ.out, List.getElem?_take, if_pos hltu]; exact HXq.out))
                obtain ⟨o4, ho4⟩ : ∃ o4, o4 = mayIn xq := ⟨_, rfl⟩
                rw [← ho4] at HI9 HSV
                clear ho4
                unfold invV invC at HI9
                go_upto_region 16 with fail
                cases ma
                · have HMN := Lib.hid (show (o1 && allV (DJ.take (u + 1))) = false from by rw [HSV.out, ← Bool.and_assoc, HMA.out]; rfl)
                  clear HMA
                  have HMA := HMN
                  clear HMN
                  go_wp2
                  go_roundw
                  case rel => exact ⟨u + 1, false, by omega, by go_num, rfl, Pt.out, Nt.out, Xt.out, Vt.out, Bt.out, NEt.out, NDt.out, RWt.out, XEt.out, XDt.out, HMA⟩
                  case measure => simp [intOf] <;> omega
                · have HMN := Lib.hid (show (o1 && allV (DJ.take (u + 1))) = o4 from by rw [HSV.out, ← Bool.and_assoc, HMA.out]; rfl)
                  clear HMA
                  have HMA := HMN
                  clear HMN
                  have Pc1 := Pt.out.get 1 (.slice (some ⟨bq, oq, none⟩) m d) rfl
                  have yRq := (HRqI.out.below Bt.out)
                  have yRq0 := yRq.get0 (.int .i64 xq.k) (by decide) rfl
                  have yRq1 := yRq.get 1 (.int .i64 xq.vm) (by decide) rfl
                  have yRq2 := yRq.get 2 (.int .i64 xq.sp) (by decide) rfl
                  have yRq3 := yRq.get 3 (.int .i64 xq.pg) (by decide) rfl
                  clear yRq
                  go_wp2_with fail
                  refine (HI9.out _).mono ?_
                  rintro e w8 ⟨rfl, hb8⟩
                  have hz8 := hb8.size
                  have P8 := Lib.hid (Pt.out.below hb8)
                  have N8 := Lib.hid (Nt.out.below hb8)
                  have X8 := Lib.hid (Xt.out.below hb8)
                  have V8 := Lib.hid (Vt.out.below hb8)
                  have NE8 := Lib.hid (NEt.out.below hb8)
                  have ND8 := Lib.hid (NDt.out.below hb8)
                  have RW8 := Lib.hid (RWt.out.below hb8)
                  have XE8 := Lib.hid (XEt.out.below hb8)
                  have XD8 := Lib.hid (XDt.out.below hb8)
                  have B8 := Lib.hid ((bel_trans Bt.out hb8))
                  skip
                  have hs8 : mt ≤ w8.heap.size := by omega
                  clear Pc1 yRq0 yRq1 yRq2 yRq3
                  clear Pt Nt Xt Vt NEt NDt RWt XEt XDt Bt hst hb8 hz8
                  go_wp2
                  go_roundw
                  case rel => exact ⟨u + 1, o4, by omega, by go_num, rfl, P8.out, N8.out, X8.out, V8.out, B8.out, NE8.out, ND8.out, RW8.out, XE8.out, XD8.out, HMA⟩
                  case measure => simp [intOf] <;> omega
              · have e1 : DJ.take u = DJ := List.take_of_length_le (by have := HJN.out; omega)
                have HMB := Lib.hid (show (o1 && allV DJ) = ma from by have := HMA.out; rwa [e1] at this)
                clear e1
                cases ma
                · as_aux_lemma =>
                    have hq2 : (Q1, Q2, qc) = ([], [], 1) := by rw [HQ.out]; unfold applyR; rw [← HM1.out, HMB.out]; rfl
                    simp only [Prod.mk.injEq] at hq2
                    obtain ⟨hq3, hq4, rfl⟩ := hq2
                    have WE0 := Lib.hid (show OwnR KE wr w.heap.size (.slice none 0 0) Q1 from by rw [hq3]; exact OwnR.nil _ _)
                    have WD0 := Lib.hid (show OwnR KI wr w.heap.size (.slice none 0 0) Q2 from by rw [hq4]; exact OwnR.nil _ _)
                    clear hq3 hq4
                    go_upto_region 19 with fail
                    refine wp_region_held_drew (S := (fun w' => BoxAt w' (g5) #[.slice fx lx cx, .slice gx mx dx] 43 ∧ BoxAt w' (g6) #[.slice none 0 0, .slice none 0 0] 43 ∧ BoxAt w' (bN) #[.slice fn xt.l cn, .slice gn xt.m dn] 43 ∧ BoxAt w' (g1) #[.slice (some ⟨bt, ot, none⟩) nt ct, .slice g m d, .slice f l c] 26 ∧ RowAt w' (bt) (ot + k * 2) 2 #[.slice xt.f xt.l xt.c, .slice xt.g xt.m xt.d])) (by kernel_rfl) ⟨Xt.out.drew, Vt.out.drew, Nt.out.drew, Pt.out.drew, (HRXT.out.below Bt.out).drew⟩ (fun hS => ?_)
                    refine tkR 0 88 (v := .int .i64 1) rfl hS (fun _ _ => by kernel_rfl) ?_
                    refine tkR 2 90 (v := .int .i64 1) rfl hS (fun _ _ => by kernel_rfl) ?_
                    try simp only [Act.put, List.setIfInBounds_toArray, List.set_cons_zero, List.set_cons_succ]
                    refine wpAnyH_ready (rs := [1]) (by kernel_rfl) (by simp) ?_
                    refine AllReadyH.cons (o := ⟨some 89, _, _, _, _, _⟩) rfl (fun K hK => ?_) AllReadyH.nil
                    go_simp
                    refine (num10_any _ _).mono ?_
                    rintro e w8 ⟨rfl, rfl⟩
                    refine hK.out _ _ ?_ (fun hS' => ?_)
                    · exact hS
                    clear hK K hS
                    have hS := hS'
                    clear hS'
                    try simp only [Act.put, List.setIfInBounds_toArray, List.set_cons_zero, List.set_cons_succ]
                    try simp only [Act.put, List.setIfInBounds_toArray, List.set_cons_zero, List.set_cons_succ]
                    refine wpAnyH_take (i := 3) (oi := ⟨some 91, _, _, _, _, _⟩) (v := ?_) rfl (by kernel_rfl) (by kernel_rfl) (by kernel_rfl) (fun _ _ _ h => h) (Or.inl ⟨by rfl, ?_⟩) hS ?_
                    rotate_left
                    · (intro w' hSw; clear hSw; go_simp; try with_reducible rfl)
                    simp only [Act.put, List.setIfInBounds_toArray, List.set_cons_zero, List.set_cons_succ]
                    refine tkR 4 92 (v := .bool false) rfl hS (fun _ _ => by kernel_rfl) ?_
                    try simp only [Act.put, List.setIfInBounds_toArray, List.set_cons_zero, List.set_cons_succ]
                    refine wpAnyH_take (i := 5) (oi := ⟨some 93, _, _, _, _, _⟩) (v := ?_) rfl (by kernel_rfl) (by kernel_rfl) (by kernel_rfl) (fun _ _ _ h => h) (Or.inl ⟨by rfl, ?_⟩) hS ?_
                    rotate_left
                    · (intro w' hSw; have c0_0 := (hSw.1).get 0 (.slice fx lx cx) rfl; have c0_1 := (hSw.1).get 1 (.slice gx mx dx) rfl; clear hSw; go_simp; try with_reducible rfl)
                    simp only [Act.put, List.setIfInBounds_toArray, List.set_cons_zero, List.set_cons_succ]
                    try simp only [Act.put, List.setIfInBounds_toArray, List.set_cons_zero, List.set_cons_succ]
                    refine wpAnyH_take (i := 6) (oi := ⟨some 94, _, _, _, _, _⟩) (v := ?_) rfl (by kernel_rfl) (by kernel_rfl) (by kernel_rfl) (fun _ _ _ h => h) (Or.inl ⟨by rfl, ?_⟩) hS ?_
                    rotate_left
                    · (intro w' hSw; have c1_0 := (hSw.2.1).get 0 (.slice none 0 0) rfl; have c1_1 := (hSw.2.1).get 1 (.slice none 0 0) rfl; clear hSw; go_simp; try with_reducible rfl)
                    simp only [Act.put, List.setIfInBounds_toArray, List.set_cons_zero, List.set_cons_succ]
                    try simp only [Act.put, List.setIfInBounds_toArray, List.set_cons_zero, List.set_cons_succ]
                    refine wpAnyH_ready (rs := [7]) (by kernel_rfl) (by simp) ?_
                    refine AllReadyH.cons (o := ⟨some 95, _, _, _, _, _⟩) rfl (fun K hK => ?_) AllReadyH.nil
                    go_simp
                    refine (eqT_same10 fx gx none none lx cx mx dx 0 0 0 0 Q1 Q2 _ ((XEt.out.drew)).rows.2 ((XEt.out.drew)).rows.1 ((XDt.out.drew)).rows.2 ((XDt.out.drew)).rows.1 ((WE0.out.drew)).rows.2 ((WE0.out.drew)).rows.1 ((WD0.out.drew)).rows.2 ((WD0.out.drew)).rows.1 (by omega) (by omega)).mono ?_
                    rintro e w9 ⟨rfl, hb9⟩
                    have hz9 := hb9.size
                    try simp at hz9
                    refine hK.out _ _ ?_ (fun hS' => ?_)
                    · exact ⟨hS.1.below hb9, hS.2.1.below hb9, hS.2.2.1.below hb9, hS.2.2.2.1.below hb9, hS.2.2.2.2.below hb9⟩
                    clear hK K hS
                    have hS := hS'
                    clear hS'
                    try simp only [Act.put, List.setIfInBounds_toArray, List.set_cons_zero, List.set_cons_succ]
                    try simp only [Act.put, List.setIfInBounds_toArray, List.set_cons_zero, List.set_cons_succ]
                    refine wpAnyH_take (i := 8) (oi := ⟨some 96, _, _, _, _, _⟩) (v := ?_) rfl (by kernel_rfl) (by kernel_rfl) (by kernel_rfl) (fun _ _ _ h => h) (Or.inl ⟨by rfl, ?_⟩) hS ?_
                    rotate_left
                    · (intro w' hSw; clear hSw; go_simp; try with_reducible rfl)
                    simp only [Act.put, List.setIfInBounds_toArray, List.set_cons_zero, List.set_cons_succ]
                    try simp only [Act.put, List.setIfInBounds_toArray, List.set_cons_zero, List.set_cons_succ]
                    refine wpAnyH_take (i := 9) (oi := ⟨some 97, _, _, _, _, _⟩) (v := ?_) rfl (by kernel_rfl) (by kernel_rfl) (by kernel_rfl) (fun _ _ _ h => h) (Or.inl ⟨by rfl, ?_⟩) hS ?_
                    rotate_left
                    · (intro w' hSw; clear hSw; go_simp; try with_reducible rfl)
                    simp only [Act.put, List.setIfInBounds_toArray, List.set_cons_zero, List.set_cons_succ]
                    refine tkR 10 98 (v := .bool false) rfl hS (fun _ _ => by kernel_rfl) ?_
                    try simp only [Act.put, List.setIfInBounds_toArray, List.set_cons_zero, List.set_cons_succ]
                    refine wpAnyH_take (i := 11) (oi := ⟨some 99, _, _, _, _, _⟩) (v := ?_) rfl (by kernel_rfl) (by kernel_rfl) (by kernel_rfl) (fun _ _ _ h => h) (Or.inl ⟨by rfl, ?_⟩) hS ?_
                    rotate_left
                    · (intro w' hSw; have c2_0 := (hSw.2.2.1).get 0 (.slice fn xt.l cn) rfl; have c2_1 := (hSw.2.2.1).get 1 (.slice gn xt.m dn) rfl; clear hSw; go_simp; try with_reducible rfl)
                    simp only [Act.put, List.setIfInBounds_toArray, List.set_cons_zero, List.set_cons_succ]
                    try simp only [Act.put, List.setIfInBounds_toArray, List.set_cons_zero, List.set_cons_succ]
                    refine wpAnyH_take (i := 12) (oi := ⟨some 100, _, _, _, _, _⟩) (v := ?_) rfl (by kernel_rfl) (by kernel_rfl) (by kernel_rfl) (fun _ _ _ h => h) (Or.inl ⟨by rfl, ?_⟩) hS ?_
                    rotate_left
                    · (intro w' hSw; clear hSw; go_simp; try with_reducible rfl)
                    simp only [Act.put, List.setIfInBounds_toArray, List.set_cons_zero, List.set_cons_succ]
                    try simp only [Act.put, List.setIfInBounds_toArray, List.set_cons_zero, List.set_cons_succ]
                    refine wpAnyH_take (i := 13) (oi := ⟨some 101, _, _, _, _, _⟩) (v := ?_) rfl (by kernel_rfl) (by kernel_rfl) (by kernel_rfl) (fun _ _ _ h => h) (Or.inl ⟨by rfl, ?_⟩) hS ?_
                    rotate_left
                    · (intro w' hSw; have c3_0 := (hSw.2.2.2.1).get 0 (.slice (some ⟨bt, ot, none⟩) nt ct) rfl; clear hSw; go_simp; try with_reducible rfl)
                    simp only [Act.put, List.setIfInBounds_toArray, List.set_cons_zero, List.set_cons_succ]
                    try simp only [Act.put, List.setIfInBounds_toArray, List.set_cons_zero, List.set_cons_succ]
                    refine wpAnyH_take (i := 14) (oi := ⟨some 102, _, _, _, _, _⟩) (v := ?_) rfl (by kernel_rfl) (by kernel_rfl) (by kernel_rfl) (fun _ _ _ h => h) (Or.inl ⟨by rfl, ?_⟩) hS ?_
                    rotate_left
                    · (intro w' hSw; clear hSw; go_simp; try with_reducible rfl)
                    simp only [Act.put, List.setIfInBounds_toArray, List.set_cons_zero, List.set_cons_succ]
                    try simp only [Act.put, List.setIfInBounds_toArray, List.set_cons_zero, List.set_cons_succ]
                    refine wpAnyH_take (i := 15) (oi := ⟨some 103, _, _, _, _, _⟩) (v := ?_) rfl (by kernel_rfl) (by kernel_rfl) (by kernel_rfl) (fun _ _ _ h => h) (Or.inl ⟨by rfl, ?_⟩) hS ?_
                    rotate_left
                    · (intro w' hSw; clear hSw; go_simp; try with_reducible rfl)
                    simp only [Act.put, List.setIfInBounds_toArray, List.set_cons_zero, List.set_cons_succ]
                    try simp only [Act.put, List.setIfInBounds_toArray, List.set_cons_zero, List.set_cons_succ]
                    refine wpAnyH_take (i := 16) (oi := ⟨some 104, _, _, _, _, _⟩) (v := ?_) rfl (by kernel_rfl) (by kernel_rfl) (by kernel_rfl) (fun _ _ _ h => h) (Or.inl ⟨by rfl, ?_⟩) hS ?_
                    rotate_left
                    · (intro w' hSw; have c4_0 := (hSw.2.2.2.2).get0 (.slice xt.f xt.l xt.c) (by decide) rfl; have c4_1 := (hSw.2.2.2.2).get 1 (.slice xt.g xt.m xt.d) (by decide) rfl; clear hSw; go_simp; try with_reducible rfl)
                    simp only [Act.put, List.setIfInBounds_toArray, List.set_cons_zero, List.set_cons_succ]
                    try simp only [Act.put, List.setIfInBounds_toArray, List.set_cons_zero, List.set_cons_succ]
                    refine wpAnyH_ready (rs := [17]) (by kernel_rfl) (by simp) ?_
                    refine AllReadyH.cons (o := ⟨some 105, _, _, _, _, _⟩) rfl (fun K hK => ?_) AllReadyH.nil
                    go_simp
                    refine (eqT_same10 fn gn xt.f xt.g xt.l cn xt.m dn xt.l xt.c xt.m xt.d E0 D0 _ (((NEt.out.drew).below hb9)).rows.2 (((NEt.out.drew).below hb9)).rows.1 (((NDt.out.drew).below hb9)).rows.2 (((NDt.out.drew).below hb9)).rows.1 (HTE.out.below (bel_trans (Below.drew Bt.out) hb9)) HE1.out (HTD.out.below (bel_trans (Below.drew Bt.out) hb9)) HD1.out (by omega) (by omega)).mono ?_
                    rintro e w10 ⟨rfl, hb10⟩
                    have hz10 := hb10.size
                    try simp at hz10
                    refine hK.out _ _ ?_ (fun hS' => ?_)
                    · exact ⟨hS.1.below hb10, hS.2.1.below hb10, hS.2.2.1.below hb10, hS.2.2.2.1.below hb10, hS.2.2.2.2.below hb10⟩
                    clear hK K hS
                    have hS := hS'
                    clear hS'
                    try simp only [Act.put, List.setIfInBounds_toArray, List.set_cons_zero, List.set_cons_succ]
                    try simp only [Act.put, List.setIfInBounds_toArray, List.set_cons_zero, List.set_cons_succ]
                    refine wpAnyH_take (i := 18) (oi := ⟨some 106, _, _, _, _, _⟩) (v := ?_) rfl (by kernel_rfl) (by kernel_rfl) (by kernel_rfl) (fun _ _ _ h => h) (Or.inl ⟨by rfl, ?_⟩) hS ?_
                    rotate_left
                    · (intro w' hSw; clear hSw; go_simp; try with_reducible rfl)
                    simp only [Act.put, List.setIfInBounds_toArray, List.set_cons_zero, List.set_cons_succ]
                    try simp only [Act.put, List.setIfInBounds_toArray, List.set_cons_zero, List.set_cons_succ]
                    refine wpAnyH_take (i := 19) (oi := ⟨some 107, _, _, _, _, _⟩) (v := ?_) rfl (by kernel_rfl) (by kernel_rfl) (by kernel_rfl) (fun _ _ _ h => h) (Or.inl ⟨by rfl, ?_⟩) hS ?_
                    rotate_left
                    · (intro w' hSw; clear hSw; go_simp; try with_reducible rfl)
                    simp only [Act.put, List.setIfInBounds_toArray, List.set_cons_zero, List.set_cons_succ]
                    refine tkR 20 108 (v := .bool false) rfl hS (fun _ _ => by kernel_rfl) ?_
                    try simp only [Act.put, List.setIfInBounds_toArray, List.set_cons_zero, List.set_cons_succ]
                    refine wpAnyH_take (i := 21) (oi := ⟨some 109, _, _, _, _, _⟩) (v := ?_) rfl (by kernel_rfl) (by kernel_rfl) (by kernel_rfl) (fun _ _ _ h => h) (Or.inl ⟨by rfl, ?_⟩) hS ?_
                    rotate_left
                    · (intro w' hSw; clear hSw; go_simp; try with_reducible rfl)
                    simp only [Act.put, List.setIfInBounds_toArray, List.set_cons_zero, List.set_cons_succ]
                    try simp only [Act.put, List.setIfInBounds_toArray, List.set_cons_zero, List.set_cons_succ]
                    refine wpAnyH_take (i := 22) (oi := ⟨some 110, _, _, _, _, _⟩) (v := ?_) rfl (by kernel_rfl) (by kernel_rfl) (by kernel_rfl) (fun _ _ _ h => h) (Or.inl ⟨by rfl, ?_⟩) hS ?_
                    rotate_left
                    · (intro w' hSw; clear hSw; go_simp; try with_reducible rfl)
                    simp only [Act.put, List.setIfInBounds_toArray, List.set_cons_zero, List.set_cons_succ]
                    try simp only [Act.put, List.setIfInBounds_toArray, List.set_cons_zero, List.set_cons_succ]
                    refine wpAnyH_take (i := 23) (oi := ⟨some 111, _, _, _, _, _⟩) (v := ?_) rfl (by kernel_rfl) (by kernel_rfl) (by kernel_rfl) (fun _ _ _ h => h) (Or.inl ⟨by rfl, ?_⟩) hS ?_
                    rotate_left
                    · (intro w' hSw; have c3_1 := (hSw.2.2.2.1).get 1 (.slice g m d) rfl; clear hSw; go_simp; try with_reducible rfl)
                    simp only [Act.put, List.setIfInBounds_toArray, List.set_cons_zero, List.set_cons_succ]
                    try simp only [Act.put, List.setIfInBounds_toArray, List.set_cons_zero, List.set_cons_succ]
                    refine wpAnyH_take (i := 24) (oi := ⟨some 112, _, _, _, _, _⟩) (v := ?_) rfl (by kernel_rfl) (by kernel_rfl) (by kernel_rfl) (fun _ _ _ h => h) (Or.inl ⟨by rfl, ?_⟩) hS ?_
                    rotate_left
                    · (intro w' hSw; clear hSw; go_simp; try with_reducible rfl)
                    simp only [Act.put, List.setIfInBounds_toArray, List.set_cons_zero, List.set_cons_succ]
                    try simp only [Act.put, List.setIfInBounds_toArray, List.set_cons_zero, List.set_cons_succ]
                    refine wpAnyH_take (i := 25) (oi := ⟨some 113, _, _, _, _, _⟩) (v := ?_) rfl (by kernel_rfl) (by kernel_rfl) (by kernel_rfl) (fun _ _ _ h => h) (Or.inl ⟨by rfl, ?_⟩) hS ?_
                    rotate_left
                    · (intro w' hSw; clear hSw; go_simp; try with_reducible rfl)
                    simp only [Act.put, List.setIfInBounds_toArray, List.set_cons_zero, List.set_cons_succ]
                    try simp only [Act.put, List.setIfInBounds_toArray, List.set_cons_zero, List.set_cons_succ]
                    refine wpAnyH_ready (rs := [26]) (by kernel_rfl) (by simp) ?_
                    refine AllReadyH.cons (o := ⟨some 114, _, _, _, _, _⟩) rfl (fun K hK => ?_) AllReadyH.nil
                    go_simp
                    refine (eqV_same fr g j cr j d DJ _ ((((RWt.out.drew).below hb9).below hb10)).rows.2 ((((RWt.out.drew).below hb9).below hb10)).rows.1 (HRJ.out _ (bel_trans (bel_trans (Below.drew Bt.out) hb9) hb10)) HJN.out (by omega)).mono ?_
                    rintro e w11 ⟨rfl, hb11⟩
                    have hz11 := hb11.size
                    try simp at hz11
                    refine hK.out _ _ ?_ (fun hS' => ?_)
                    · exact ⟨hS.1.below hb11, hS.2.1.below hb11, hS.2.2.1.below hb11, hS.2.2.2.1.below hb11, hS.2.2.2.2.below hb11⟩
                    clear hK K hS
                    have hS := hS'
                    clear hS'
                    try simp only [Act.put, List.setIfInBounds_toArray, List.set_cons_zero, List.set_cons_succ]
                    try simp only [Act.put, List.setIfInBounds_toArray, List.set_cons_zero, List.set_cons_succ]
                    refine wpAnyH_take (i := 27) (oi := ⟨some 115, _, _, _, _, _⟩) (v := ?_) rfl (by kernel_rfl) (by kernel_rfl) (by kernel_rfl) (fun _ _ _ h => h) (Or.inl ⟨by rfl, ?_⟩) hS ?_
                    rotate_left
                    · (intro w' hSw; clear hSw; go_simp; try with_reducible rfl)
                    simp only [Act.put, List.setIfInBounds_toArray, List.set_cons_zero, List.set_cons_succ]
                    try simp only [Act.put, List.setIfInBounds_toArray, List.set_cons_zero, List.set_cons_succ]
                    refine wpAnyH_take (i := 28) (oi := ⟨some 116, _, _, _, _, _⟩) (v := ?_) rfl (by kernel_rfl) (by kernel_rfl) (by kernel_rfl) (fun _ _ _ h => h) (Or.inl ⟨by rfl, ?_⟩) hS ?_
                    rotate_left
                    · (intro w' hSw; clear hSw; go_simp; try with_reducible rfl)
                    simp only [Act.put, List.setIfInBounds_toArray, List.set_cons_zero, List.set_cons_succ]
                    refine wpAnyH_done (by kernel_rfl) ?_ _
                    try simp only [Act.put, List.setIfInBounds_toArray, List.set_cons_zero, List.set_cons_succ]
                    have P12 := Lib.hid (((((Pt.out.drew).below hb9).below hb10).below hb11))
                    have N12 := Lib.hid (((((Nt.out.drew).below hb9).below hb10).below hb11))
                    have X12 := Lib.hid (((((Xt.out.drew).below hb9).below hb10).below hb11))
                    have V12 := Lib.hid (((((Vt.out.drew).below hb9).below hb10).below hb11))
                    have NE12 := Lib.hid (((((NEt.out.drew).below hb9).below hb10).below hb11))
                    have ND12 := Lib.hid (((((NDt.out.drew).below hb9).below hb10).below hb11))
                    have RW12 := Lib.hid (((((RWt.out.drew).below hb9).below hb10).below hb11))
                    have XE12 := Lib.hid (((((XEt.out.drew).below hb9).below hb10).below hb11))
                    have XD12 := Lib.hid (((((XDt.out.drew).below hb9).below hb10).below hb11))
                    have WE12 := Lib.hid (((((WE0.out.drew).below hb9).below hb10).below hb11))
                    have WD12 := Lib.hid (((((WD0.out.drew).below hb9).below hb10).below hb11))
                    have B12 := Lib.hid ((bel_trans (bel_trans (bel_trans (Below.drew Bt.out) hb9) hb10) hb11))
                    obtain ⟨W12, hW12⟩ : ∃ W12, W12 = w11 := ⟨_, rfl⟩
                    have hs12 : mt ≤ W12.heap.size := by rw [hW12]; first | exact hst | omega | (simp; omega)
                    rw [← hW12] at P12 N12 X12 V12 NE12 ND12 RW12 XE12 XD12 WE12 WD12 B12 ⊢
                    clear hW12 Pt Nt Xt Vt NEt NDt RWt XEt XDt WE0 WD0 Bt hst
                    have Xc0 := X12.out.get 0 (.slice fx lx cx) rfl
                    have Xc1 := X12.out.get 1 (.slice gx mx dx) rfl
                    go_wp2_with fail
                    refine (spoilS_any w.heap.size fx gx lx cx mx dx Q1 Q2 _ XE12.out XD12.out (by omega) (by omega)).mono ?_
                    rintro e w13 ⟨rfl, va13, hga13, hgb13⟩
                    have hza13 := hga13.size
                    have hzb13 := hgb13.size
                    clear Xc0 Xc1
                    go_upto_region 22 with fail
                    have P14 := Lib.hid (((P12.out.grown hga13 (XE12.out.ne_box P12.out (by decide))).grown hgb13 ((XD12.out.grownO XE12.out (by decide) hga13).ne_box (P12.out.grown hga13 (XE12.out.ne_box P12.out (by decide))) (by decide))))
                    have N14 := Lib.hid (((N12.out.grown hga13 (XE12.out.ne_box N12.out (by decide))).grown hgb13 ((XD12.out.grownO XE12.out (by decide) hga13).ne_box (N12.out.grown hga13 (XE12.out.ne_box N12.out (by decide))) (by decide))))
                    have X14 := Lib.hid (((X12.out.grown hga13 (XE12.out.ne_box X12.out (by decide))).grown hgb13 ((XD12.out.grownO XE12.out (by decide) hga13).ne_box (X12.out.grown hga13 (XE12.out.ne_box X12.out (by decide))) (by decide))))
                    have V14 := Lib.hid (((V12.out.grown hga13 (XE12.out.ne_box V12.out (by decide))).grown hgb13 ((XD12.out.grownO XE12.out (by decide) hga13).ne_box (V12.out.grown hga13 (XE12.out.ne_box V12.out (by decide))) (by decide))))
                    have NE14 := Lib.hid (((OwnR.keptN NE12.out hga13 HAE.out).grownO (XD12.out.grownO XE12.out (by decide) hga13) (by decide) hgb13))
                    have ND14 := Lib.hid ((OwnR.keptN (ND12.out.grownO XE12.out (by decide) hga13) hgb13 HAD.out))
                    have B14 := Lib.hid (((B12.out.grown hga13 (by first | omega | (simp; omega)) (fun k hk => Nat.le_trans (show w.heap.size ≤ w.heap.size by omega) (XE12.out.blk k hk))).grown hgb13 (by first | omega | (simp; omega)) (fun k hk => Nat.le_trans (show w.heap.size ≤ w.heap.size by omega) ((XD12.out.grownO XE12.out (by decide) hga13).blk k hk))))
                    obtain ⟨W14, hW14⟩ : ∃ W14, W14 = w13 := ⟨_, rfl⟩
                    have hs14 : mt ≤ W14.heap.size := by rw [hW14]; first | exact hs12 | omega | (simp; omega)
                    rw [← hW14] at P14 N14 X14 V14 NE14 ND14 B14 ⊢
                    clear hW14 P12 N12 X12 V12 NE12 ND12 B12 hs12
                    refine wp_region_held_drew (S := (fun w' => BoxAt w' (bN) #[.slice fn xt.l cn, .slice gn xt.m dn] 43 ∧ BoxAt w' (g1) #[.slice (some ⟨bt, ot, none⟩) nt ct, .slice g m d, .slice f l c] 26 ∧ RowAt w' (bt) (ot + k * 2) 2 #[.slice xt.f xt.l xt.c, .slice xt.g xt.m xt.d])) (by kernel_rfl) ⟨N14.out.drew, P14.out.drew, (HRXT.out.below B14.out).drew⟩ (fun hS => ?_)
                    refine tkR 0 119 (v := .agg #[.slice fn xt.l cn, .slice gn xt.m dn]) rfl hS (fun _ h => run_ldN 43 (.tmp 5) bN 0 (by kernel_rfl) (by kernel_rfl) Try.underlying43 rfl (by kernel_rfl) ((h.1).sub 0 _ rfl)) ?_
                    refine tkR 1 120 (v := .pointer (some ⟨g1, 0, none⟩)) rfl hS (fun _ _ => by kernel_rfl) ?_
                    refine tkR 2 121 (v := .slice (some ⟨bt, ot, none⟩) nt ct) rfl hS (fun _ h => run_ld1 22 (.tmp 120) g1 0 (by kernel_rfl) (by kernel_rfl) Try.underlying22 rfl ((h.2.1).get 0 (.slice (some ⟨bt, ot, none⟩) nt ct) rfl)) ?_
                    refine tkR 3 122 (v := .int .i64 k) rfl hS (fun _ _ => by kernel_rfl) ?_
                    refine tkR 4 123 (v := .pointer (some ⟨bt, ot + k * 2, none⟩)) rfl hS (fun _ _ => run_ixN 22 43 (.tmp 121) (.tmp 122) bt ot nt ct k 2 (by kernel_rfl) (by kernel_rfl) (by kernel_rfl) Try.underlying22 (by kernel_rfl) hltk) ?_
                    refine tkR 5 124 (v := .agg #[.slice xt.f xt.l xt.c, .slice xt.g xt.m xt.d]) rfl hS (fun _ h => run_ldN 43 (.tmp 123) bt (ot + k * 2) (by kernel_rfl) (by kernel_rfl) Try.underlying43 rfl (by kernel_rfl) ((h.2.2).sub 0 _ rfl (Nat.le_of_ble_eq_true rfl))) ?_
                    try simp only [Act.put, List.setIfInBounds_toArray, List.set_cons_zero, List.set_cons_succ]
                    refine wpAnyH_ready (rs := [6]) (by kernel_rfl) (by simp) ?_
                    refine AllReadyH.cons (o := ⟨some 125, _, _, _, _, _⟩) rfl (fun K hK => ?_) AllReadyH.nil
                    go_simp
                    refine (eqT_same10 fn gn xt.f xt.g xt.l cn xt.m dn xt.l xt.c xt.m xt.d E0 D0 _ ((NE14.out.drew)).rows.2 ((NE14.out.drew)).rows.1 ((ND14.out.drew)).rows.2 ((ND14.out.drew)).rows.1 (HTE.out.below (Below.drew B14.out)) HE1.out (HTD.out.below (Below.drew B14.out)) HD1.out (by omega) (by omega)).mono ?_
                    rintro e w15 ⟨rfl, hb15⟩
                    have hz15 := hb15.size
                    try simp at hz15
                    refine hK.out _ _ ?_ (fun hS' => ?_)
                    · exact ⟨hS.1.below hb15, hS.2.1.below hb15, hS.2.2.below hb15⟩
                    clear hK K hS
                    have hS := hS'
                    clear hS'
                    try simp only [Act.put, List.setIfInBounds_toArray, List.set_cons_zero, List.set_cons_succ]
                    try simp only [Act.put, List.setIfInBounds_toArray, List.set_cons_zero, List.set_cons_succ]
                    refine wpAnyH_take (i := 7) (oi := ⟨some 126, _, _, _, _, _⟩) (v := ?_) rfl (by kernel_rfl) (by kernel_rfl) (by kernel_rfl) (fun _ _ _ h => h) (Or.inl ⟨by rfl, ?_⟩) hS ?_
                    rotate_left
                    · (intro w' hSw; clear hSw; go_simp; try with_reducible rfl)
                    simp only [Act.put, List.setIfInBounds_toArray, List.set_cons_zero, List.set_cons_succ]
                    refine wpAnyH_done (by kernel_rfl) ?_ _
                    try simp only [Act.put, List.setIfInBounds_toArray, List.set_cons_zero, List.set_cons_succ]
                    have P16 := Lib.hid (((P14.out.drew).below hb15))
                    have N16 := Lib.hid (((N14.out.drew).below hb15))
                    have X16 := Lib.hid (((X14.out.drew).below hb15))
                    have V16 := Lib.hid (((V14.out.drew).below hb15))
                    have NE16 := Lib.hid (((NE14.out.drew).below hb15))
                    have ND16 := Lib.hid (((ND14.out.drew).below hb15))
                    have B16 := Lib.hid ((bel_trans (Below.drew B14.out) hb15))
                    obtain ⟨W16, hW16⟩ : ∃ W16, W16 = w15 := ⟨_, rfl⟩
                    have hs16 : mt ≤ W16.heap.size := by rw [hW16]; first | exact hs14 | omega | (simp; omega)
                    rw [← hW16] at P16 N16 X16 V16 NE16 ND16 B16 ⊢
                    clear hW16 P14 N14 X14 V14 NE14 ND14 B14 hs14
                    go_upto_region 24 with fail
                    by_cases hj0 : j = 0
                    · have ej0 : ((j : Int) == 0) = true := by rw [hj0]; rfl
                      go_wp2
                      go_roundw
                      case rel => exact ⟨j + 1, by omega, by go_num, P16.out, B16.out⟩
                      case measure => simp [intOf] <;> omega
                    · as_aux_lemma =>
                        have ej0 : ((j : Int) == 0) = false := by simp; omega
                        obtain ⟨jp, hjp⟩ : ∃ jp, jp + 1 = j := ⟨j - 1, by omega⟩
                        have jpm : jp < m := by omega
                        have jp0 : (0 : Int) ≤ (jp : Int) := by omega
                        have jp1 : (jp : Int) < (m : Int) := by omega
                        have jw : IntKind.i64.wrap ((j : Int) - 1) = (jp : Int) := by rw [IntWalk.i64_in _ (by omega)]; omega
                        clear hj0
                        obtain ⟨xp, hxp⟩ := rows_some HO.out jpm
                        have HXp := Lib.hid hxp
                        obtain ⟨bp, op, hgp, hrp⟩ := HD.out jp xp hxp
                        have HRpI := Lib.hid (show RowAt w bp (op + jp * 4) 4 #[.int .i64 xp.k, .int .i64 xp.vm, .int .i64 xp.sp, .int .i64 xp.pg] from hrp)
                        have hbp : bp < w.heap.size := hrp.lt
                        clear hrp hxp
                        subst hgp
                        have hlt0 := fun W (h1 : OwnR KE W w.heap.size (.slice fn xt.l cn) E0) (h2 : OwnR KI W w.heap.size (.slice gn xt.m dn) D0) => laterC fn gn xt.l cn xt.m dn E0 D0 xp W h1.rows.2 h1.rows.1 h2.rows.2 h2.rows.1 (by omega) (by omega) h1.fit.1 h1.fit.2.1 h1.fit.2.2 h2.fit.2.2
                        obtain ⟨o5, ho5⟩ : ∃ o5, o5 = mayIn xp := ⟨_, rfl⟩
                        have HI5 := Lib.hid (show ∀ W, Calls Try.prog 15 #[invV xp] W fun r w' => r = .returned (.bool o5) ∧ Below W.heap.size W w' from by rw [ho5]; exact fun W => inval9_any xp W)
                        obtain ⟨l8, hl8⟩ : ∃ l8, l8 = decide ((xt.m : Int) < 8) := ⟨_, rfl⟩
                        have hue : laterR E0 D0 xp = if (o1 && o5) = true then (if l8 = true then (E0, D0 ++ [xp], 0) else ([], [], 5)) else ([], [], 1) := later_if HM1.out ho5 (by rw [hl8, HD1.out])
                        obtain ⟨⟨U1, U2, uc⟩, hU⟩ : ∃ q, q = laterR E0 D0 xp := ⟨_, rfl⟩
                        have HUL := Lib.hid (laterR_len hU)
                        rw [← hU] at hlt0
                        unfold EndF at hlt0
                        simp only at hlt0
                        have HLT := Lib.hid hlt0
                        have HUE := Lib.hid (hU.trans hue)
                        have dl8 := hl8.symm
                        clear hlt0 hU hue hl8 ho5
                        unfold invV invC at HI5 HLT
                        have hul1 : U1.length ≤ 600 := by have := HUL.out.1; have := HE1.out; omega
                        have hul2 : U2.length ≤ 601 := by have := HUL.out.2; have := HD1.out; omega
                        go_upto_region 25 with fail
                        go_cut [13, 14] (fun s13 s14 wx => ∃ (bY : Nat) (fy : Option Addr) (ly : Nat) (cy : Nat) (gy : Option Addr) (my : Nat) (dy : Nat), s13 = .pointer (some ⟨bY, 0, none⟩) ∧ s14 = .int .i64 uc ∧ mt ≤ bY ∧ Hid (Below W16.heap.size W16 wx) ∧ Hid (OwnR KE wx (w.heap.size) (.slice fy ly cy) (U1)) ∧ Hid (OwnR KI wx (w.heap.size) (.slice gy my dy) (U2)) ∧ Hid (BoxAt wx bY #[.slice fy ly cy, .slice gy my dy] 43))
                        case first =>
                          rename_i JJ KK hJJ hKK
                          have BZ := Lib.hid (Below.refl W16.heap.size W16)
                          refine wp_region_held_drew (S := (fun w' => BoxAt w' (bN) #[.slice fn xt.l cn, .slice gn xt.m dn] 43 ∧ BoxAt w' (g1) #[.slice (some ⟨bt, ot, none⟩) nt ct, .slice (some ⟨bp, op, none⟩) m d, .slice f l c] 26 ∧ RowAt w' (bp) (op + jp * 4) 4 #[.int .i64 xp.k, .int .i64 xp.vm, .int .i64 xp.sp, .int .i64 xp.pg])) (by kernel_rfl) ⟨N16.out.drew, P16.out.drew, (HRpI.out.below B16.out).drew⟩ (fun hS => ?_)
                          refine tkR 0 130 (v := .agg #[.slice fn xt.l cn, .slice gn xt.m dn]) rfl hS (fun _ h => run_ldN 43 (.tmp 5) bN 0 (by kernel_rfl) (by kernel_rfl) Try.underlying43 rfl (by kernel_rfl) ((h.1).sub 0 _ rfl)) ?_
                          refine tkR 1 131 (v := .pointer (some ⟨g1, 1, none⟩)) rfl hS (fun _ _ => by kernel_rfl) ?_
                          refine tkR 2 132 (v := .slice (some ⟨bp, op, none⟩) m d) rfl hS (fun _ h => run_ld1 23 (.tmp 131) g1 1 (by kernel_rfl) (by kernel_rfl) Try.underlying23 rfl ((h.2.1).get 1 (.slice (some ⟨bp, op, none⟩) m d) rfl)) ?_
                          refine tkR 3 133 (v := .int .i64 j) rfl hS (fun _ _ => by kernel_rfl) ?_
                          try simp only [Act.put, List.setIfInBounds_toArray, List.set_cons_zero, List.set_cons_succ]
                          refine wpAnyH_take (i := 4) (oi := ⟨some 134, _, _, _, _, _⟩) (v := ?_) rfl (by kernel_rfl) (by kernel_rfl) (by kernel_rfl) (fun _ _ _ h => h) (Or.inl ⟨by rfl, ?_⟩) hS ?_
                          rotate_left
                          · (intro w' hSw; clear hSw; go_simp; try with_reducible rfl)
                          simp only [Act.put, List.setIfInBounds_toArray, List.set_cons_zero, List.set_cons_succ]
                          refine tkR 5 135 (v := .pointer (some ⟨bp, op + jp * 4, none⟩)) rfl hS (fun _ _ => run_ixN 23 32 (.tmp 132) (.tmp 134) bp op m d jp 4 (by kernel_rfl) (by kernel_rfl) (by kernel_rfl) Try.underlying23 (by kernel_rfl) jpm) ?_
                          refine tkR 6 136 (v := .agg #[.int .i64 xp.k, .int .i64 xp.vm, .int .i64 xp.sp, .int .i64 xp.pg]) rfl hS (fun _ h => run_ldN 32 (.tmp 135) bp (op + jp * 4) (by kernel_rfl) (by kernel_rfl) Try.underlying32 rfl (by kernel_rfl) ((h.2.2).sub 0 _ rfl (Nat.le_of_ble_eq_true rfl))) ?_
                          try simp only [Act.put, List.setIfInBounds_toArray, List.set_cons_zero, List.set_cons_succ]
                          refine wpAnyH_ready (rs := [7, 11]) (by kernel_rfl) (by simp) ?_
                          refine AllReadyH.cons (o := ⟨some 137, _, _, _, _, _⟩) rfl (fun K hK => ?_) ?_
                          · go_simp
                            refine (HLT.out _ (NE16.out.drew) (ND16.out.drew)).mono ?_
                            rintro e w18 ⟨fy, ly, cy, gy, my, dy, rfl, hly, hmy, hEy, hDy, hb18⟩
                            have hz18 := hb18.size
                            try simp at hz18
                            have HLY := Lib.hid hly
                            have HMY := Lib.hid hmy
                            clear hly hmy
                            refine hK.out _ _ ?_ (fun hS' => ?_)
                            · exact ⟨hS.1.below hb18, hS.2.1.below hb18, hS.2.2.below hb18⟩
                            clear hK K hS
                            have hS := hS'
                            clear hS'
                            try simp only [Act.put, List.setIfInBounds_toArray, List.set_cons_zero, List.set_cons_succ]
                            refine tkR 8 129 (v := .tuple #[.agg #[.slice fy ly cy, .slice gy my dy], .int .i64 uc]) rfl hS (fun _ _ => by kernel_rfl) ?_
                            refine tkR 9 138 (v := .agg #[.slice fy ly cy, .slice gy my dy]) rfl hS (fun _ _ => by kernel_rfl) ?_
                            refine tkR 10 139 (v := .int .i64 uc) rfl hS (fun _ _ => by kernel_rfl) ?_
                            try simp only [Act.put, List.setIfInBounds_toArray, List.set_cons_zero, List.set_cons_succ]
                            refine wpAnyH_ready (rs := [11]) (by kernel_rfl) (by simp) ?_
                            refine AllReadyH.cons (o := ⟨some 13, _, _, _, _, _⟩) rfl (fun K hK => ?_) AllReadyH.nil
                            go_simp
                            refine hK.out _ _ ?_ (fun hS' => ?_)
                            · exact ⟨hS.1.alloc _, hS.2.1.alloc _, hS.2.2.alloc _⟩
                            clear hK K hS
                            have hS := hS'
                            clear hS'
                            try simp only [Act.put, List.setIfInBounds_toArray, List.set_cons_zero, List.set_cons_succ]
                            try simp only [Act.put, List.setIfInBounds_toArray, List.set_cons_zero, List.set_cons_succ]
                            refine wpAnyH_ready (rs := [12]) (by kernel_rfl) (by simp) ?_
                            refine AllReadyH.cons (o := ⟨none, _, _, _, _, _⟩) rfl (fun K hK => ?_) AllReadyH.nil
                            refine step_storeB rfl 43 _ _ rfl _ _ _ 43 rfl rfl (by kernel_rfl) (by rfl) (by simp [Value.oneCell']) (BoxAt.newAt (w18) #[.slice none 0 0, .slice none 0 0] 43 (w18.heap.size) (by first | omega | (simp; done) | (simp; omega))) ?_
                            refine hK.out _ _ ?_ (fun hS' => ?_)
                            · exact ⟨hS.1.row (show bN ≠ w18.heap.size by omega), hS.2.1.row (show g1 ≠ w18.heap.size by omega), hS.2.2.row (show bp ≠ w18.heap.size by omega)⟩
                            clear hK K hS
                            have hS := hS'
                            clear hS'
                            try simp only [Act.put]
                            refine tkR 13 14 (v := .int .i64 uc) rfl hS (fun _ _ => by kernel_rfl) ?_
                            refine wpAnyH_done (by kernel_rfl) ?_ _
                            try simp only [Act.put, List.setIfInBounds_toArray, List.set_cons_zero, List.set_cons_succ]
                            show KK _ _
                            refine hKK _ _ (Met.intro (hJJ _ _ ?_))
                            (repeat apply Exists.intro)
                            refine ⟨?_, rfl⟩
                            refine ⟨w18.heap.size, fy, ly, cy, gy, my, dy, rfl, rfl, (by omega), (Below.rowB (g := w18.heap.size) (bel_alloc (bel_trans (Below.drew BZ.out) hb18) (.cells #[.slice none 0 0, .slice none 0 0] 43)) (cs := #[.slice fy ly cy, .slice gy my dy]) (show W16.heap.size ≤ w18.heap.size by omega)), (((OwnR.mono hEy (base' := w.heap.size) (by first | omega | (simp; done) | (simp; omega))).alloc (.cells #[.slice none 0 0, .slice none 0 0] 43)).rowN (cs := #[.slice fy ly cy, .slice gy my dy]) (fun he => absurd (hEy.blt _ he) (by first | omega | (simp; omega)))), (((OwnR.mono hDy (base' := w.heap.size) (by first | omega | (simp; done) | (simp; omega))).alloc (.cells #[.slice none 0 0, .slice none 0 0] 43)).rowN (cs := #[.slice fy ly cy, .slice gy my dy]) (fun he => absurd (hDy.blt _ he) (by first | omega | (simp; omega)))), ((BoxAt.newAt (w18) #[.slice none 0 0, .slice none 0 0] 43 (w18.heap.size) (by first | omega | (simp; done) | (simp; omega))).put (cs' := #[.slice fy ly cy, .slice gy my dy]))⟩
                          refine AllReadyH.cons (o := ⟨some 13, _, _, _, _, _⟩) rfl (fun K hK => ?_) AllReadyH.nil
                          go_simp
                          refine hK.out _ _ ?_ (fun hS' => ?_)
                          · exact ⟨hS.1.alloc _, hS.2.1.alloc _, hS.2.2.alloc _⟩
                          clear hK K hS
                          have hS := hS'
                          clear hS'
                          try simp only [Act.put, List.setIfInBounds_toArray, List.set_cons_zero, List.set_cons_succ]
                          try simp only [Act.put, List.setIfInBounds_toArray, List.set_cons_zero, List.set_cons_succ]
                          refine wpAnyH_ready (rs := [7]) (by kernel_rfl) (by simp) ?_
                          refine AllReadyH.cons (o := ⟨some 137, _, _, _, _, _⟩) rfl (fun K hK => ?_) AllReadyH.nil
                          go_simp
                          refine (HLT.out _ ((NE16.out.drew).alloc (.cells #[.slice none 0 0, .slice none 0 0] 43)) ((ND16.out.drew).alloc (.cells #[.slice none 0 0, .slice none 0 0] 43))).mono ?_
                          rintro e w18 ⟨fy, ly, cy, gy, my, dy, rfl, hly, hmy, hEy, hDy, hb18⟩
                          have hz18 := hb18.size
                          try simp at hz18
                          have HLY := Lib.hid hly
                          have HMY := Lib.hid hmy
                          clear hly hmy
                          refine hK.out _ _ ?_ (fun hS' => ?_)
                          · exact ⟨hS.1.below hb18, hS.2.1.below hb18, hS.2.2.below hb18⟩
                          clear hK K hS
                          have hS := hS'
                          clear hS'
                          try simp only [Act.put, List.setIfInBounds_toArray, List.set_cons_zero, List.set_cons_succ]
                          refine tkR 8 129 (v := .tuple #[.agg #[.slice fy ly cy, .slice gy my dy], .int .i64 uc]) rfl hS (fun _ _ => by kernel_rfl) ?_
                          refine tkR 9 138 (v := .agg #[.slice fy ly cy, .slice gy my dy]) rfl hS (fun _ _ => by kernel_rfl) ?_
                          refine tkR 10 139 (v := .int .i64 uc) rfl hS (fun _ _ => by kernel_rfl) ?_
                          try simp only [Act.put, List.setIfInBounds_toArray, List.set_cons_zero, List.set_cons_succ]
                          refine wpAnyH_ready (rs := [12]) (by kernel_rfl) (by simp) ?_
                          refine AllReadyH.cons (o := ⟨none, _, _, _, _, _⟩) rfl (fun K hK => ?_) AllReadyH.nil
                          refine step_storeB rfl 43 _ _ rfl _ _ _ 43 rfl rfl (by kernel_rfl) (by rfl) (by simp [Value.oneCell']) ((BoxAt.newAt ((W16).drew) #[.slice none 0 0, .slice none 0 0] 43 (W16.heap.size) (by first | omega | (simp; done) | (simp; omega))).below hb18) ?_
                          refine hK.out _ _ ?_ (fun hS' => ?_)
                          · exact ⟨hS.1.row (show bN ≠ W16.heap.size by omega), hS.2.1.row (show g1 ≠ W16.heap.size by omega), hS.2.2.row (show bp ≠ W16.heap.size by omega)⟩
                          clear hK K hS
                          have hS := hS'
                          clear hS'
                          try simp only [Act.put]
                          refine tkR 13 14 (v := .int .i64 uc) rfl hS (fun _ _ => by kernel_rfl) ?_
                          refine wpAnyH_done (by kernel_rfl) ?_ _
                          try simp only [Act.put, List.setIfInBounds_toArray, List.set_cons_zero, List.set_cons_succ]
                          show KK _ _
                          refine hKK _ _ (Met.intro (hJJ _ _ ?_))
                          (repeat apply Exists.intro)
                          refine ⟨?_, rfl⟩
                          refine ⟨W16.heap.size, fy, ly, cy, gy, my, dy, rfl, rfl, (by omega), (Below.rowB (g := W16.heap.size) (bel_trans (bel_alloc (Below.drew BZ.out) (.cells #[.slice none 0 0, .slice none 0 0] 43)) hb18) (cs := #[.slice fy ly cy, .slice gy my dy]) (show W16.heap.size ≤ W16.heap.size by omega)), ((OwnR.mono hEy (base' := w.heap.size) (by first | omega | (simp; done) | (simp; omega))).rowN (cs := #[.slice fy ly cy, .slice gy my dy]) (hEy.ne_box ((BoxAt.newAt ((W16).drew) #[.slice none 0 0, .slice none 0 0] 43 (W16.heap.size) (by first | omega | (simp; done) | (simp; omega))).below hb18) (by decide))), ((OwnR.mono hDy (base' := w.heap.size) (by first | omega | (simp; done) | (simp; omega))).rowN (cs := #[.slice fy ly cy, .slice gy my dy]) (hDy.ne_box ((BoxAt.newAt ((W16).drew) #[.slice none 0 0, .slice none 0 0] 43 (W16.heap.size) (by first | omega | (simp; done) | (simp; omega))).below hb18) (by decide))), (((BoxAt.newAt ((W16).drew) #[.slice none 0 0, .slice none 0 0] 43 (W16.heap.size) (by first | omega | (simp; done) | (simp; omega))).below hb18).put (cs' := #[.slice fy ly cy, .slice gy my dy]))⟩
                        case rest =>
                        obtain ⟨bY, fy, ly, cy, gy, my, dy, rfl, rfl, hbY17, QB17, QNYE17, QNYD17, QbY17⟩ := hcut
                        obtain ⟨w17c, rfl⟩ : ∃ w17c : World, w17c = wc := ⟨_, rfl⟩
                        have hz17 := QB17.out.size
                        have P17 := Lib.hid (P16.out.below QB17.out)
                        have N17 := Lib.hid (N16.out.below QB17.out)
                        have X17 := Lib.hid (X16.out.below QB17.out)
                        have V17 := Lib.hid (V16.out.below QB17.out)
                        have NE17 := Lib.hid (NE16.out.below QB17.out)
                        have ND17 := Lib.hid (ND16.out.below QB17.out)
                        have B17 := Lib.hid (bel_trans B16.out QB17.out)
                        obtain ⟨m17, hm17⟩ : ∃ m17, m17 = w17c.heap.size := ⟨_, rfl⟩
                        have hbm17 : mt ≤ m17 := by omega
                        have hlY17 : bY + 1 ≤ m17 := by rw [hm17]; exact QbY17.out.lt
                        have hs17 : m17 ≤ w17c.heap.size := by omega
                        clear hm17 hz17 P16 N16 X16 V16 NE16 ND16 B16 QB17 hs16
                        go_upto_region 27 with (refine wpList_storeB rfl 43 _ _ rfl (g6) #[.slice none 0 0, .slice none 0 0] _ 43 rfl rfl (by kernel_rfl) (by rfl) (by simp [Value.oneCell']) V17.out ?_)
                        have P18 := Lib.hid ((P17.out.row (cs' := #[.slice none 0 0, .slice none 0 0]) (show g1 ≠ g6 by omega)))
                        have N18 := Lib.hid ((N17.out.row (cs' := #[.slice none 0 0, .slice none 0 0]) (show bN ≠ g6 by omega)))
                        have X18 := Lib.hid ((X17.out.row (cs' := #[.slice none 0 0, .slice none 0 0]) (show g5 ≠ g6 by omega)))
                        have V18 := Lib.hid ((V17.out.put (cs' := #[.slice none 0 0, .slice none 0 0])))
                        have Y18 := Lib.hid ((QbY17.out.row (cs' := #[.slice none 0 0, .slice none 0 0]) (show bY ≠ g6 by omega)))
                        have NE18 := Lib.hid ((NE17.out.rowN (g := g6) (cs := #[.slice none 0 0, .slice none 0 0]) (NE17.out.ne_box V17.out (by decide))))
                        have ND18 := Lib.hid ((ND17.out.rowN (g := g6) (cs := #[.slice none 0 0, .slice none 0 0]) (ND17.out.ne_box V17.out (by decide))))
                        have YE18 := Lib.hid ((QNYE17.out.rowN (g := g6) (cs := #[.slice none 0 0, .slice none 0 0]) (QNYE17.out.ne_box V17.out (by decide))))
                        have YD18 := Lib.hid ((QNYD17.out.rowN (g := g6) (cs := #[.slice none 0 0, .slice none 0 0]) (QNYD17.out.ne_box V17.out (by decide))))
                        have B18 := Lib.hid ((Below.rowB (g := g6) B17.out (cs := #[.slice none 0 0, .slice none 0 0]) (show w.heap.size ≤ g6 by omega)))
                        obtain ⟨W18, hW18⟩ : ∃ W18, W18 = (w17c).setRow (g6) #[.slice none 0 0, .slice none 0 0] := ⟨_, rfl⟩
                        have hs18 : m17 ≤ W18.heap.size := by rw [hW18]; first | exact hs17 | omega | (simp; omega)
                        rw [← hW18] at P18 N18 X18 V18 Y18 NE18 ND18 YE18 YD18 B18 ⊢
                        clear hW18 P17 N17 X17 V17 QbY17 NE17 ND17 QNYE17 QNYD17 B17 hs17
                        have Pc0 := P18.out.get 0 (.slice (some ⟨bt, ot, none⟩) nt ct) rfl
                        have yXT := (HRXT.out.below B18.out)
                        have yXT0 := yXT.get0 (.slice xt.f xt.l xt.c) (by decide) rfl
                        have yXT1 := yXT.get 1 (.slice xt.g xt.m xt.d) (by decide) rfl
                        clear yXT
                        go_wp2_with fail
                        refine (HT9.out _ B18.out).mono ?_
                        rintro e w19 ⟨rfl, hb19⟩
                        have hz19 := hb19.size
                        have P19 := Lib.hid (P18.out.below hb19)
                        have N19 := Lib.hid (N18.out.below hb19)
                        have X19 := Lib.hid (X18.out.below hb19)
                        have V19 := Lib.hid (V18.out.below hb19)
                        have Y19 := Lib.hid (Y18.out.below hb19)
                        have NE19 := Lib.hid (NE18.out.below hb19)
                        have ND19 := Lib.hid (ND18.out.below hb19)
                        have YE19 := Lib.hid (YE18.out.below hb19)
                        have YD19 := Lib.hid (YD18.out.below hb19)
                        have B19 := Lib.hid ((bel_trans B18.out hb19))
                        skip
                        have hs19 : m17 ≤ w19.heap.size := by omega
                        clear Pc0 yXT0 yXT1
                        clear P18 N18 X18 V18 Y18 NE18 ND18 YE18 YD18 B18 hs18 hb19 hz19
                        cases hq20 : o1
                        · go_upto_region 32 with fail
                          have hq2 := HUE.out
                          simp [hq20] at hq2
                          obtain ⟨hu1, hu2, rfl⟩ := hq2
                          have ZE1 := Lib.hid (show OwnR KE w19 w.heap.size (.slice none 0 0) U1 from by rw [hu1]; exact OwnR.nil _ _)
                          have ZD1 := Lib.hid (show OwnR KI w19 w.heap.size (.slice none 0 0) U2 from by rw [hu2]; exact OwnR.nil _ _)
                          have hly6 : ly ≤ 600 := by have := (YE19.out).rows.1; omega
                          have hmy6 : my ≤ 601 := by have := (YD19.out).rows.1; omega
                          clear hu1 hu2
                          go_wp2_with fail
                          refine (num10_any _ _).mono ?_
                          rintro e w21 ⟨rfl, rfl⟩
                          have Yc0 := Y19.out.get 0 (.slice fy ly cy) rfl
                          have Yc1 := Y19.out.get 1 (.slice gy my dy) rfl
                          have Vc0 := V19.out.get 0 (.slice none 0 0) rfl
                          have Vc1 := V19.out.get 1 (.slice none 0 0) rfl
                          go_wp2_with fail
                          refine (eqT_same10 fy gy none none ly cy my dy 0 0 0 0 U1 U2 _ (YE19.out).rows.2 (YE19.out).rows.1 (YD19.out).rows.2 (YD19.out).rows.1 (ZE1.out).rows.2 (ZE1.out).rows.1 (ZD1.out).rows.2 (ZD1.out).rows.1 (by omega) (by omega)).mono ?_
                          rintro e w22 ⟨rfl, hb22⟩
                          have hz22 := hb22.size
                          have P22 := Lib.hid (P19.out.below hb22)
                          have N22 := Lib.hid (N19.out.below hb22)
                          have X22 := Lib.hid (X19.out.below hb22)
                          have V22 := Lib.hid (V19.out.below hb22)
                          have Y22 := Lib.hid (Y19.out.below hb22)
                          have NE22 := Lib.hid (NE19.out.below hb22)
                          have ND22 := Lib.hid (ND19.out.below hb22)
                          have YE22 := Lib.hid (YE19.out.below hb22)
                          have YD22 := Lib.hid (YD19.out.below hb22)
                          have ZE22 := Lib.hid (ZE1.out.below hb22)
                          have ZD22 := Lib.hid (ZD1.out.below hb22)
                          have B22 := Lib.hid ((bel_trans B19.out hb22))
                          skip
                          have hs22 : m17 ≤ w22.heap.size := by omega
                          clear Yc0 Yc1 Vc0 Vc1
                          clear P19 N19 X19 V19 Y19 NE19 ND19 YE19 YD19 ZE1 ZD1 B19 hs19 hb22 hz22
                          go_wp2
                          go_roundw
                          case rel => exact ⟨j + 1, by omega, by go_num, P22.out, B22.out⟩
                          case measure => simp [intOf] <;> omega
                        have Pc1 := P19.out.get 1 (.slice (some ⟨bp, op, none⟩) m d) rfl
                        have yRp := (HRpI.out.below B19.out)
                        have yRp0 := yRp.get0 (.int .i64 xp.k) (by decide) rfl
                        have yRp1 := yRp.get 1 (.int .i64 xp.vm) (by decide) rfl
                        have yRp2 := yRp.get 2 (.int .i64 xp.sp) (by decide) rfl
                        have yRp3 := yRp.get 3 (.int .i64 xp.pg) (by decide) rfl
                        clear yRp
                        go_wp2_with fail
                        refine (HI5.out _).mono ?_
                        rintro e w21 ⟨rfl, hb21⟩
                        have hz21 := hb21.size
                        have P21 := Lib.hid (P19.out.below hb21)
                        have N21 := Lib.hid (N19.out.below hb21)
                        have X21 := Lib.hid (X19.out.below hb21)
                        have V21 := Lib.hid (V19.out.below hb21)
                        have Y21 := Lib.hid (Y19.out.below hb21)
                        have NE21 := Lib.hid (NE19.out.below hb21)
                        have ND21 := Lib.hid (ND19.out.below hb21)
                        have YE21 := Lib.hid (YE19.out.below hb21)
                        have YD21 := Lib.hid (YD19.out.below hb21)
                        have B21 := Lib.hid ((bel_trans B19.out hb21))
                        skip
                        have hs21 : m17 ≤ w21.heap.size := by omega
                        clear Pc1 yRp0 yRp1 yRp2 yRp3
                        clear P19 N19 X19 V19 Y19 NE19 ND19 YE19 YD19 B19 hs19 hb21 hz21
                        cases hq22 : o5
                        · go_upto_region 32 with fail
                          have hq2 := HUE.out
                          simp [hq20, hq22] at hq2
                          obtain ⟨hu1, hu2, rfl⟩ := hq2
                          have ZE1 := Lib.hid (show OwnR KE w21 w.heap.size (.slice none 0 0) U1 from by rw [hu1]; exact OwnR.nil _ _)
                          have ZD1 := Lib.hid (show OwnR KI w21 w.heap.size (.slice none 0 0) U2 from by rw [hu2]; exact OwnR.nil _ _)
                          have hly6 : ly ≤ 600 := by have := (YE21.out).rows.1; omega
                          have hmy6 : my ≤ 601 := by have := (YD21.out).rows.1; omega
                          clear hu1 hu2
                          go_wp2_with fail
                          refine (num10_any _ _).mono ?_
                          rintro e w23 ⟨rfl, rfl⟩
                          have Yc0 := Y21.out.get 0 (.slice fy ly cy) rfl
                          have Yc1 := Y21.out.get 1 (.slice gy my dy) rfl
                          have Vc0 := V21.out.get 0 (.slice none 0 0) rfl
                          have Vc1 := V21.out.get 1 (.slice none 0 0) rfl
                          go_wp2_with fail
                          refine (eqT_same10 fy gy none none ly cy my dy 0 0 0 0 U1 U2 _ (YE21.out).rows.2 (YE21.out).rows.1 (YD21.out).rows.2 (YD21.out).rows.1 (ZE1.out).rows.2 (ZE1.out).rows.1 (ZD1.out).rows.2 (ZD1.out).rows.1 (by omega) (by omega)).mono ?_
                          rintro e w24 ⟨rfl, hb24⟩
                          have hz24 := hb24.size
                          have P24 := Lib.hid (P21.out.below hb24)
                          have N24 := Lib.hid (N21.out.below hb24)
                          have X24 := Lib.hid (X21.out.below hb24)
                          have V24 := Lib.hid (V21.out.below hb24)
                          have Y24 := Lib.hid (Y21.out.below hb24)
                          have NE24 := Lib.hid (NE21.out.below hb24)
                          have ND24 := Lib.hid (ND21.out.below hb24)
                          have YE24 := Lib.hid (YE21.out.below hb24)
                          have YD24 := Lib.hid (YD21.out.below hb24)
                          have ZE24 := Lib.hid (ZE1.out.below hb24)
                          have ZD24 := Lib.hid (ZD1.out.below hb24)
                          have B24 := Lib.hid ((bel_trans B21.out hb24))
                          skip
                          have hs24 : m17 ≤ w24.heap.size := by omega
                          clear Yc0 Yc1 Vc0 Vc1
                          clear P21 N21 X21 V21 Y21 NE21 ND21 YE21 YD21 ZE1 ZD1 B21 hs21 hb24 hz24
                          go_wp2
                          go_roundw
                          case rel => exact ⟨j + 1, by omega, by go_num, P24.out, B24.out⟩
                          case measure => simp [intOf] <;> omega
                        have Pc0 := P21.out.get 0 (.slice (some ⟨bt, ot, none⟩) nt ct) rfl
                        have yXT := (HRXT.out.below B21.out)
                        have yXT1 := yXT.get 1 (.slice xt.g xt.m xt.d) (by decide) rfl
                        clear yXT
                        cases hq23 : l8
                        · go_upto_region 32 with fail
                          clear Pc0 yXT1
                          have hq2 := HUE.out
                          simp [hq20, hq22, hq23] at hq2
                          obtain ⟨hu1, hu2, rfl⟩ := hq2
                          have ZE1 := Lib.hid (show OwnR KE w21 w.heap.size (.slice none 0 0) U1 from by rw [hu1]; exact OwnR.nil _ _)
                          have ZD1 := Lib.hid (show OwnR KI w21 w.heap.size (.slice none 0 0) U2 from by rw [hu2]; exact OwnR.nil _ _)
                          have hly6 : ly ≤ 600 := by have := (YE21.out).rows.1; omega
                          have hmy6 : my ≤ 601 := by have := (YD21.out).rows.1; omega
                          clear hu1 hu2
                          go_wp2_with fail
                          refine (num10_any _ _).mono ?_
                          rintro e w24 ⟨rfl, rfl⟩
                          have Yc0 := Y21.out.get 0 (.slice fy ly cy) rfl
                          have Yc1 := Y21.out.get 1 (.slice gy my dy) rfl
                          have Vc0 := V21.out.get 0 (.slice none 0 0) rfl
                          have Vc1 := V21.out.get 1 (.slice none 0 0) rfl
                          go_wp2_with fail
                          refine (eqT_same10 fy gy none none ly cy my dy 0 0 0 0 U1 U2 _ (YE21.out).rows.2 (YE21.out).rows.1 (YD21.out).rows.2 (YD21.out).rows.1 (ZE1.out).rows.2 (ZE1.out).rows.1 (ZD1.out).rows.2 (ZD1.out).rows.1 (by omega) (by omega)).mono ?_
                          rintro e w25 ⟨rfl, hb25⟩
                          have hz25 := hb25.size
                          have P25 := Lib.hid (P21.out.below hb25)
                          have N25 := Lib.hid (N21.out.below hb25)
                          have X25 := Lib.hid (X21.out.below hb25)
                          have V25 := Lib.hid (V21.out.below hb25)
                          have Y25 := Lib.hid (Y21.out.below hb25)
                          have NE25 := Lib.hid (NE21.out.below hb25)
                          have ND25 := Lib.hid (ND21.out.below hb25)
                          have YE25 := Lib.hid (YE21.out.below hb25)
                          have YD25 := Lib.hid (YD21.out.below hb25)
                          have ZE25 := Lib.hid (ZE1.out.below hb25)
                          have ZD25 := Lib.hid (ZD1.out.below hb25)
                          have B25 := Lib.hid ((bel_trans B21.out hb25))
                          skip
                          have hs25 : m17 ≤ w25.heap.size := by omega
                          clear Yc0 Yc1 Vc0 Vc1
                          clear P21 N21 X21 V21 Y21 NE21 ND21 YE21 YD21 ZE1 ZD1 B21 hs21 hb25 hz25
                          go_wp2
                          go_roundw
                          case rel => exact ⟨j + 1, by omega, by go_num, P25.out, B25.out⟩
                          case measure => simp [intOf] <;> omega
                        have yXT := (HRXT.out.below B21.out)
                        have yXT0 := yXT.get0 (.slice xt.f xt.l xt.c) (by decide) rfl
                        clear yXT
                        go_wp2_with fail
                        refine (HCT.out _ B21.out).mono ?_
                        rintro e w24 ⟨fz, cz, gz, dz, rfl, hEz, hDz, hb24⟩
                        have HYZ := Lib.hid (own_apart2 YD21.out hDz)
                        have OZE := Lib.hid (OwnR.mono hEz (base' := w.heap.size) (by first | omega | (simp; done) | (simp; omega)))
                        have OZD := Lib.hid (OwnR.mono hDz (base' := w.heap.size) (by first | omega | (simp; done) | (simp; omega)))
                        clear hEz hDz
                        have hz24 := hb24.size
                        have P24 := Lib.hid (P21.out.below hb24)
                        have N24 := Lib.hid (N21.out.below hb24)
                        have X24 := Lib.hid (X21.out.below hb24)
                        have V24 := Lib.hid (V21.out.below hb24)
                        have Y24 := Lib.hid (Y21.out.below hb24)
                        have NE24 := Lib.hid (NE21.out.below hb24)
                        have ND24 := Lib.hid (ND21.out.below hb24)
                        have YE24 := Lib.hid (YE21.out.below hb24)
                        have YD24 := Lib.hid (YD21.out.below hb24)
                        have B24 := Lib.hid ((bel_trans B21.out hb24))
                        skip
                        have hs24 : m17 ≤ w24.heap.size := by omega
                        clear Pc0 yXT1 yXT0
                        clear P21 N21 X21 V21 Y21 NE21 ND21 YE21 YD21 B21 hs21 hb24 hz24
                        go_upto_region 31 with (refine wpList_storeB rfl 43 _ _ rfl (g6) #[.slice fz xt.l cz, .slice gz xt.m dz] _ 43 rfl rfl (by kernel_rfl) (by rfl) (by simp [Value.oneCell']) V24.out ?_)
                        have P25 := Lib.hid ((P24.out.row (cs' := #[.slice fz xt.l cz, .slice gz xt.m dz]) (show g1 ≠ g6 by omega)))
                        have N25 := Lib.hid ((N24.out.row (cs' := #[.slice fz xt.l cz, .slice gz xt.m dz]) (show bN ≠ g6 by omega)))
                        have X25 := Lib.hid ((X24.out.row (cs' := #[.slice fz xt.l cz, .slice gz xt.m dz]) (show g5 ≠ g6 by omega)))
                        have V25 := Lib.hid ((V24.out.put (cs' := #[.slice fz xt.l cz, .slice gz xt.m dz])))
                        have Y25 := Lib.hid ((Y24.out.row (cs' := #[.slice fz xt.l cz, .slice gz xt.m dz]) (show bY ≠ g6 by omega)))
                        have NE25 := Lib.hid ((NE24.out.rowN (g := g6) (cs := #[.slice fz xt.l cz, .slice gz xt.m dz]) (NE24.out.ne_box V24.out (by decide))))
                        have ND25 := Lib.hid ((ND24.out.rowN (g := g6) (cs := #[.slice fz xt.l cz, .slice gz xt.m dz]) (ND24.out.ne_box V24.out (by decide))))
                        have YE25 := Lib.hid ((YE24.out.rowN (g := g6) (cs := #[.slice fz xt.l cz, .slice gz xt.m dz]) (YE24.out.ne_box V24.out (by decide))))
                        have YD25 := Lib.hid ((YD24.out.rowN (g := g6) (cs := #[.slice fz xt.l cz, .slice gz xt.m dz]) (YD24.out.ne_box V24.out (by decide))))
                        have ZE25 := Lib.hid ((OZE.out.rowN (g := g6) (cs := #[.slice fz xt.l cz, .slice gz xt.m dz]) (OZE.out.ne_box V24.out (by decide))))
                        have ZD25 := Lib.hid ((OZD.out.rowN (g := g6) (cs := #[.slice fz xt.l cz, .slice gz xt.m dz]) (OZD.out.ne_box V24.out (by decide))))
                        have B25 := Lib.hid ((Below.rowB (g := g6) B24.out (cs := #[.slice fz xt.l cz, .slice gz xt.m dz]) (show w.heap.size ≤ g6 by omega)))
                        obtain ⟨W25, hW25⟩ : ∃ W25, W25 = (w24).setRow (g6) #[.slice fz xt.l cz, .slice gz xt.m dz] := ⟨_, rfl⟩
                        have hs25 : m17 ≤ W25.heap.size := by rw [hW25]; first | exact hs24 | omega | (simp; omega)
                        rw [← hW25] at P25 N25 X25 V25 Y25 NE25 ND25 YE25 YD25 ZE25 ZD25 B25 ⊢
                        clear hW25 P24 N24 X24 V24 Y24 NE24 ND24 YE24 YD24 OZE OZD B24 hs24
                        refine wp_region_tail [11] (fun _ => True) (fun w' => BoxAt w' (g6) #[.slice fz xt.l cz, .slice gz xt.m dz] 43 ∧ BoxAt w' (g1) #[.slice (some ⟨bt, ot, none⟩) nt ct, .slice (some ⟨bp, op, none⟩) m d, .slice f l c] 26 ∧ RowAt w' (bp) (op + jp * 4) 4 #[.int .i64 xp.k, .int .i64 xp.vm, .int .i64 xp.sp, .int .i64 xp.pg]) (by kernel_rfl) ?_
                        have hS : (fun w' => BoxAt w' (g6) #[.slice fz xt.l cz, .slice gz xt.m dz] 43 ∧ BoxAt w' (g1) #[.slice (some ⟨bt, ot, none⟩) nt ct, .slice (some ⟨bp, op, none⟩) m d, .slice f l c] 26 ∧ RowAt w' (bp) (op + jp * 4) 4 #[.int .i64 xp.k, .int .i64 xp.vm, .int .i64 xp.sp, .int .i64 xp.pg]) W25.drew := ⟨V25.out.drew, P25.out.drew, (HRpI.out.below B25.out).drew⟩
                        skip
                        have P26 := Lib.hid ((P25.out.drew))
                        have N26 := Lib.hid ((N25.out.drew))
                        have X26 := Lib.hid ((X25.out.drew))
                        have V26 := Lib.hid ((V25.out.drew))
                        have Y26 := Lib.hid ((Y25.out.drew))
                        have NE26 := Lib.hid ((NE25.out.drew))
                        have ND26 := Lib.hid ((ND25.out.drew))
                        have YE26 := Lib.hid ((YE25.out.drew))
                        have YD26 := Lib.hid ((YD25.out.drew))
                        have ZE26 := Lib.hid ((ZE25.out.drew))
                        have ZD26 := Lib.hid ((ZD25.out.drew))
                        have B26 := Lib.hid ((Below.drew B25.out))
                        obtain ⟨W26, hW26⟩ : ∃ W26, W26 = (W25).drew := ⟨_, rfl⟩
                        have hs26 : m17 ≤ W26.heap.size := by rw [hW26]; first | exact hs25 | omega | (simp; omega)
                        rw [← hW26] at P26 N26 X26 V26 Y26 NE26 ND26 YE26 YD26 ZE26 ZD26 B26 hS ⊢
                        clear hW26 P25 N25 X25 V25 Y25 NE25 ND25 YE25 YD25 ZE25 ZD25 B25 hs25
                        refine tail_read 0 (oi := ⟨some 170, _, _, _, _, _⟩) (v := ?_) rfl (by kernel_rfl) (by kernel_rfl) (by kernel_rfl) (by kernel_rfl) (fun _ _ _ h => h) ⟨trivial, hS⟩ (Or.inl ⟨by rfl, ?_⟩) ?_
                        rotate_left
                        · (intro w' hSw; clear hSw; go_simp; try with_reducible rfl)
                        simp only [Act.put, List.setIfInBounds_toArray, List.set_cons_zero, List.set_cons_succ]
                        refine tail_chain 1 [9, 10, 11] (oi := ⟨some 171, _, _, _, _, _⟩) (v := ?_) rfl (by kernel_rfl) (by kernel_rfl) (by kernel_rfl) (by kernel_rfl) (fun _ _ _ h => h) ⟨trivial, hS⟩ (Or.inl ⟨by rfl, ?_⟩) ?_
                        rotate_left
                        · (intro w' hSw; have c0_1 := (hSw.1).get 1 (.slice gz xt.m dz) rfl; clear hSw; go_simp; try with_reducible rfl)
                        simp only [Act.put, List.setIfInBounds_toArray, List.set_cons_zero, List.set_cons_succ]
                        refine tail_read 2 (oi := ⟨some 172, _, _, _, _, _⟩) (v := ?_) rfl (by kernel_rfl) (by kernel_rfl) (by kernel_rfl) (by kernel_rfl) (fun _ _ _ h => h) ⟨trivial, hS⟩ (Or.inl ⟨by rfl, ?_⟩) ?_
                        rotate_left
                        · (intro w' hSw; clear hSw; go_simp; try with_reducible rfl)
                        simp only [Act.put, List.setIfInBounds_toArray, List.set_cons_zero, List.set_cons_succ]
                        refine tail_chain 3 [6, 7, 8, 9, 10, 11] (oi := ⟨some 173, _, _, _, _, _⟩) (v := ?_) rfl (by kernel_rfl) (by kernel_rfl) (by kernel_rfl) (by kernel_rfl) (fun _ _ _ h => h) ⟨trivial, hS⟩ (Or.inl ⟨by rfl, ?_⟩) ?_
                        rotate_left
                        · (intro w' hSw; have c1_1 := (hSw.2.1).get 1 (.slice (some ⟨bp, op, none⟩) m d) rfl; clear hSw; go_simp; try with_reducible rfl)
                        simp only [Act.put, List.setIfInBounds_toArray, List.set_cons_zero, List.set_cons_succ]
                        refine tail_read 4 (oi := ⟨some 174, _, _, _, _, _⟩) (v := ?_) rfl (by kernel_rfl) (by kernel_rfl) (by kernel_rfl) (by kernel_rfl) (fun _ _ _ h => h) ⟨trivial, hS⟩ (Or.inl ⟨by rfl, ?_⟩) ?_
                        rotate_left
                        · (intro w' hSw; clear hSw; go_simp; try with_reducible rfl)
                        simp only [Act.put, List.setIfInBounds_toArray, List.set_cons_zero, List.set_cons_succ]
                        refine tail_read 5 (oi := ⟨some 175, _, _, _, _, _⟩) (v := ?_) rfl (by kernel_rfl) (by kernel_rfl) (by kernel_rfl) (by kernel_rfl) (fun _ _ _ h => h) ⟨trivial, hS⟩ (Or.inl ⟨by rfl, ?_⟩) ?_
                        rotate_left
                        · (intro w' hSw; clear hSw; go_simp; try with_reducible rfl)
                        simp only [Act.put, List.setIfInBounds_toArray, List.set_cons_zero, List.set_cons_succ]
                        refine tail_read 6 (oi := ⟨some 176, _, _, _, _, _⟩) (v := ?_) rfl (by kernel_rfl) (by kernel_rfl) (by kernel_rfl) (by kernel_rfl) (fun _ _ _ h => h) ⟨trivial, hS⟩ (Or.inl ⟨by rfl, ?_⟩) ?_
                        rotate_left
                        · (intro w' hSw; clear hSw; go_simp; try with_reducible rfl)
                        simp only [Act.put, List.setIfInBounds_toArray, List.set_cons_zero, List.set_cons_succ]
                        refine tail_chain 7 [8, 9, 10, 11] (oi := ⟨some 177, _, _, _, _, _⟩) (v := ?_) rfl (by kernel_rfl) (by kernel_rfl) (by kernel_rfl) (by kernel_rfl) (fun _ _ _ h => h) ⟨trivial, hS⟩ (Or.inl ⟨by rfl, ?_⟩) ?_
                        rotate_left
                        · (intro w' hSw; have c2_0 := (hSw.2.2).get0 (.int .i64 xp.k) (by decide) rfl; have c2_1 := (hSw.2.2).get 1 (.int .i64 xp.vm) (by decide) rfl; have c2_2 := (hSw.2.2).get 2 (.int .i64 xp.sp) (by decide) rfl; have c2_3 := (hSw.2.2).get 3 (.int .i64 xp.pg) (by decide) rfl; clear hSw; go_simp; try with_reducible rfl)
                        simp only [Act.put, List.setIfInBounds_toArray, List.set_cons_zero, List.set_cons_succ]
                        refine tail_one 8 (o := ⟨some 178, _, _, _, _, _⟩) (by kernel_rfl) rfl (fun K hK => ?_)
                        go_simp
                        refine hK.out _ _ ?_ (fun hS' => ?_)
                        · exact ⟨trivial, ⟨hS.1.alloc _, hS.2.1.alloc _, hS.2.2.alloc _⟩⟩
                        clear hK K hS
                        have hS := hS'.2
                        clear hS'
                        try simp only [Act.put, List.setIfInBounds_toArray, List.set_cons_zero, List.set_cons_succ]
                        refine tail_one 9 (o := ⟨some 179, _, _, _, _, _⟩) (by kernel_rfl) rfl (fun K hK => ?_)
                        refine step_rowRl (K := KI) rfl _ _ rfl w.heap.size xt.m 1 _ D0 [xp] rfl (ZD26.out.alloc (.cells #[.int .i64 xp.k, .int .i64 xp.vm, .int .i64 xp.sp, .int .i64 xp.pg] 32)) HD1.out (some ⟨W26.heap.size, 0, none⟩) 1 rfl rfl (RowsAt.one (K := KI) (q := xp) ((BoxAt.newAt (W26) #[.int .i64 xp.k, .int .i64 xp.vm, .int .i64 xp.sp, .int .i64 xp.pg] 32 (W26.heap.size) (by first | omega | (simp; done) | (simp; omega))))) (fun h => by cases h) (by omega) (by first | omega | (simp; omega)) ?_
                        intro f27a c27a w27 hO27 hg27
                        have hz27 := hg27.size
                        try simp at hz27
                        have hSn : (fun w' => BoxAt w' (g6) #[.slice fz xt.l cz, .slice gz xt.m dz] 43 ∧ BoxAt w' (g1) #[.slice (some ⟨bt, ot, none⟩) nt ct, .slice (some ⟨bp, op, none⟩) m d, .slice f l c] 26 ∧ RowAt w' (bp) (op + jp * 4) 4 #[.int .i64 xp.k, .int .i64 xp.vm, .int .i64 xp.sp, .int .i64 xp.pg]) w27 := ⟨hS.1.grown hg27 ((ZD26.out.alloc (.cells #[.int .i64 xp.k, .int .i64 xp.vm, .int .i64 xp.sp, .int .i64 xp.pg] 32)).ne_box (V26.out.alloc (.cells #[.int .i64 xp.k, .int .i64 xp.vm, .int .i64 xp.sp, .int .i64 xp.pg] 32)) (by decide)), hS.2.1.grown hg27 ((ZD26.out.alloc (.cells #[.int .i64 xp.k, .int .i64 xp.vm, .int .i64 xp.sp, .int .i64 xp.pg] 32)).ne_box (P26.out.alloc (.cells #[.int .i64 xp.k, .int .i64 xp.vm, .int .i64 xp.sp, .int .i64 xp.pg] 32)) (by decide)), hS.2.2.grownR hg27 (fun he => absurd ((ZD26.out.alloc (.cells #[.int .i64 xp.k, .int .i64 xp.vm, .int .i64 xp.sp, .int .i64 xp.pg] 32)).blk _ he.symm) (by omega))⟩
                        have P27 := Lib.hid ((P26.out.alloc (.cells #[.int .i64 xp.k, .int .i64 xp.vm, .int .i64 xp.sp, .int .i64 xp.pg] 32)).grown hg27 ((ZD26.out.alloc (.cells #[.int .i64 xp.k, .int .i64 xp.vm, .int .i64 xp.sp, .int .i64 xp.pg] 32)).ne_box (P26.out.alloc (.cells #[.int .i64 xp.k, .int .i64 xp.vm, .int .i64 xp.sp, .int .i64 xp.pg] 32)) (by decide)))
                        have N27 := Lib.hid ((N26.out.alloc (.cells #[.int .i64 xp.k, .int .i64 xp.vm, .int .i64 xp.sp, .int .i64 xp.pg] 32)).grown hg27 ((ZD26.out.alloc (.cells #[.int .i64 xp.k, .int .i64 xp.vm, .int .i64 xp.sp, .int .i64 xp.pg] 32)).ne_box (N26.out.alloc (.cells #[.int .i64 xp.k, .int .i64 xp.vm, .int .i64 xp.sp, .int .i64 xp.pg] 32)) (by decide)))
                        have X27 := Lib.hid ((X26.out.alloc (.cells #[.int .i64 xp.k, .int .i64 xp.vm, .int .i64 xp.sp, .int .i64 xp.pg] 32)).grown hg27 ((ZD26.out.alloc (.cells #[.int .i64 xp.k, .int .i64 xp.vm, .int .i64 xp.sp, .int .i64 xp.pg] 32)).ne_box (X26.out.alloc (.cells #[.int .i64 xp.k, .int .i64 xp.vm, .int .i64 xp.sp, .int .i64 xp.pg] 32)) (by decide)))
                        have V27 := Lib.hid ((V26.out.alloc (.cells #[.int .i64 xp.k, .int .i64 xp.vm, .int .i64 xp.sp, .int .i64 xp.pg] 32)).grown hg27 ((ZD26.out.alloc (.cells #[.int .i64 xp.k, .int .i64 xp.vm, .int .i64 xp.sp, .int .i64 xp.pg] 32)).ne_box (V26.out.alloc (.cells #[.int .i64 xp.k, .int .i64 xp.vm, .int .i64 xp.sp, .int .i64 xp.pg] 32)) (by decide)))
                        have Y27 := Lib.hid ((Y26.out.alloc (.cells #[.int .i64 xp.k, .int .i64 xp.vm, .int .i64 xp.sp, .int .i64 xp.pg] 32)).grown hg27 ((ZD26.out.alloc (.cells #[.int .i64 xp.k, .int .i64 xp.vm, .int .i64 xp.sp, .int .i64 xp.pg] 32)).ne_box (Y26.out.alloc (.cells #[.int .i64 xp.k, .int .i64 xp.vm, .int .i64 xp.sp, .int .i64 xp.pg] 32)) (by decide)))
                        have NE27o := Lib.hid ((NE26.out.alloc (.cells #[.int .i64 xp.k, .int .i64 xp.vm, .int .i64 xp.sp, .int .i64 xp.pg] 32)).grownO (ZD26.out.alloc (.cells #[.int .i64 xp.k, .int .i64 xp.vm, .int .i64 xp.sp, .int .i64 xp.pg] 32)) (by decide) hg27)
                        have YE27o := Lib.hid ((YE26.out.alloc (.cells #[.int .i64 xp.k, .int .i64 xp.vm, .int .i64 xp.sp, .int .i64 xp.pg] 32)).grownO (ZD26.out.alloc (.cells #[.int .i64 xp.k, .int .i64 xp.vm, .int .i64 xp.sp, .int .i64 xp.pg] 32)) (by decide) hg27)
                        have YD27o := Lib.hid (OwnR.keptN (YD26.out.alloc (.cells #[.int .i64 xp.k, .int .i64 xp.vm, .int .i64 xp.sp, .int .i64 xp.pg] 32)) hg27 HYZ.out)
                        have ZE27o := Lib.hid ((ZE26.out.alloc (.cells #[.int .i64 xp.k, .int .i64 xp.vm, .int .i64 xp.sp, .int .i64 xp.pg] 32)).grownO (ZD26.out.alloc (.cells #[.int .i64 xp.k, .int .i64 xp.vm, .int .i64 xp.sp, .int .i64 xp.pg] 32)) (by decide) hg27)
                        have ZD27 := Lib.hid (hO27)
                        have B27 := Lib.hid ((bel_alloc B26.out (.cells #[.int .i64 xp.k, .int .i64 xp.vm, .int .i64 xp.sp, .int .i64 xp.pg] 32)).grown hg27 (show w.heap.size ≤ _ by first | omega | (simp; omega)) (fun k hk => Nat.le_trans (show w.heap.size ≤ w.heap.size by omega) ((ZD26.out.alloc (.cells #[.int .i64 xp.k, .int .i64 xp.vm, .int .i64 xp.sp, .int .i64 xp.pg] 32)).blk k hk)))
                        obtain ⟨g27, hgg27⟩ : ∃ g27, g27 = W26.heap.size := ⟨_, rfl⟩
                        have hs27 : g27 + 1 ≤ w27.heap.size := by omega
                        have hb27 : m17 ≤ g27 := by omega
                        try rw [← hgg27]
                        clear hgg27
                        clear P26 N26 X26 V26 Y26 NE26 ND26 YE26 YD26 ZE26 ZD26 B26 hg27 hO27 hz27 hs26
                        refine hK.out _ _ ?_ (fun hS' => ?_)
                        · exact ⟨trivial, hSn⟩
                        clear hK K hS hSn
                        have hS := hS'.2
                        clear hS'
                        try simp only [Act.put, List.setIfInBounds_toArray, List.set_cons_zero, List.set_cons_succ]
                        refine tail_read 10 (oi := ⟨some 180, _, _, _, _, _⟩) (v := ?_) rfl (by kernel_rfl) (by kernel_rfl) (by kernel_rfl) (by kernel_rfl) (fun _ _ _ h => h) ⟨trivial, hS⟩ (Or.inl ⟨by rfl, ?_⟩) ?_
                        rotate_left
                        · (intro w' hSw; clear hSw; go_simp; try with_reducible rfl)
                        simp only [Act.put, List.setIfInBounds_toArray, List.set_cons_zero, List.set_cons_succ]
                        refine tail_last 11 (o := ⟨none, _, _, _, _, _⟩) (by decide) (by kernel_rfl) rfl (fun K hK => ?_)
                        have zs0 := V27.out.free 1
                        have cs0 := V27.out.get 1 (.slice gz xt.m dz) rfl
                        go_simp
                        clear zs0 cs0
                        refine hK.out _ _ trivial ?_
                        clear hK K
                        try simp only [Act.put, List.setIfInBounds_toArray, List.set_cons_zero, List.set_cons_succ]
                        refine tail_done (by kernel_rfl) ?_
                        clear hS
                        have P28 := Lib.hid ((P27.out.other ⟨g6, 1, none⟩ (.slice f27a (xt.m + 1) c27a) (show g1 ≠ g6 by omega)))
                        have N28 := Lib.hid ((N27.out.other ⟨g6, 1, none⟩ (.slice f27a (xt.m + 1) c27a) (show bN ≠ g6 by omega)))
                        have X28 := Lib.hid ((X27.out.other ⟨g6, 1, none⟩ (.slice f27a (xt.m + 1) c27a) (show g5 ≠ g6 by omega)))
                        have V28 := Lib.hid ((V27.out.set 1 (.slice f27a (xt.m + 1) c27a) #[.slice fz xt.l cz, .slice f27a (xt.m + 1) c27a] rfl))
                        have Y28 := Lib.hid ((Y27.out.other ⟨g6, 1, none⟩ (.slice f27a (xt.m + 1) c27a) (show bY ≠ g6 by omega)))
                        have NE28 := Lib.hid ((NE27o.out.otherN ⟨g6, 1, none⟩ (.slice f27a (xt.m + 1) c27a) (NE27o.out.ne_box V27.out (by decide))))
                        have YE28 := Lib.hid ((YE27o.out.otherN ⟨g6, 1, none⟩ (.slice f27a (xt.m + 1) c27a) (YE27o.out.ne_box V27.out (by decide))))
                        have YD28 := Lib.hid ((YD27o.out.otherN ⟨g6, 1, none⟩ (.slice f27a (xt.m + 1) c27a) (YD27o.out.ne_box V27.out (by decide))))
                        have ZE28 := Lib.hid ((ZE27o.out.otherN ⟨g6, 1, none⟩ (.slice f27a (xt.m + 1) c27a) (ZE27o.out.ne_box V27.out (by decide))))
                        have ZD28 := Lib.hid ((ZD27.out.otherN ⟨g6, 1, none⟩ (.slice f27a (xt.m + 1) c27a) (ZD27.out.ne_box V27.out (by decide))))
                        have B28 := Lib.hid ((Below.setCell B27.out (p := ⟨g6, 1, none⟩) (show w.heap.size ≤ g6 by omega) (.slice f27a (xt.m + 1) c27a)))
                        obtain ⟨W28, hW28⟩ : ∃ W28, W28 = (w27).setCell ⟨g6, 1, none⟩ (.slice f27a (xt.m + 1) c27a) := ⟨_, rfl⟩
                        have hs28 : g27 + 1 ≤ W28.heap.size := by rw [hW28]; first | (simp [World.setCell]; omega) | (simp [World.setCell, World.setRow]; omega) | exact hs27
                        rw [← hW28] at P28 N28 X28 V28 Y28 NE28 YE28 YD28 ZE28 ZD28 B28 ⊢
                        clear hW28 P27 N27 X27 V27 Y27 NE27o YE27o YD27o ZE27o ZD27 B27 hs27
                        go_upto_region 32 with fail
                        have hq2 := HUE.out
                        simp [hq20, hq22, hq23] at hq2
                        obtain ⟨hu1, hu2, rfl⟩ := hq2
                        have ZE1 := Lib.hid (show OwnR KE W28 (w.heap.size) (.slice fz xt.l cz) (U1) from by rw [hu1]; exact ZE28.out)
                        have ZD1 := Lib.hid (show OwnR KI W28 (w.heap.size) (.slice f27a (xt.m + 1) c27a) (U2) from by rw [hu2]; exact ZD28.out)
                        have hly6 : ly ≤ 600 := by have := (YE28.out).rows.1; omega
                        have hmy6 : my ≤ 601 := by have := (YD28.out).rows.1; omega
                        clear hu1 hu2
                        go_wp2_with fail
                        refine (num10_any _ _).mono ?_
                        rintro e w29 ⟨rfl, rfl⟩
                        have Yc0 := Y28.out.get 0 (.slice fy ly cy) rfl
                        have Yc1 := Y28.out.get 1 (.slice gy my dy) rfl
                        have Vc0 := V28.out.get 0 (.slice fz xt.l cz) rfl
                        have Vc1 := V28.out.get 1 (.slice f27a (xt.m + 1) c27a) rfl
                        go_wp2_with fail
                        refine (eqT_same10 fy gy fz f27a ly cy my dy xt.l cz (xt.m + 1) c27a U1 U2 _ (YE28.out).rows.2 (YE28.out).rows.1 (YD28.out).rows.2 (YD28.out).rows.1 (ZE1.out).rows.2 (ZE1.out).rows.1 (ZD1.out).rows.2 (ZD1.out).rows.1 (by omega) (by omega)).mono ?_
                        rintro e w30 ⟨rfl, hb30⟩
                        have hz30 := hb30.size
                        have P30 := Lib.hid (P28.out.below hb30)
                        have N30 := Lib.hid (N28.out.below hb30)
                        have X30 := Lib.hid (X28.out.below hb30)
                        have V30 := Lib.hid (V28.out.below hb30)
                        have Y30 := Lib.hid (Y28.out.below hb30)
                        have NE30 := Lib.hid (NE28.out.below hb30)
                        have YE30 := Lib.hid (YE28.out.below hb30)
                        have YD30 := Lib.hid (YD28.out.below hb30)
                        have ZE30 := Lib.hid (ZE1.out.below hb30)
                        have ZD30 := Lib.hid (ZD1.out.below hb30)
                        have B30 := Lib.hid ((bel_trans B28.out hb30))
                        skip
                        have hs30 : g27 + 1 ≤ w30.heap.size := by omega
                        clear Yc0 Yc1 Vc0 Vc1
                        clear P28 N28 X28 V28 Y28 NE28 YE28 YD28 ZE1 ZD1 B28 hs28 hb30 hz30
                        go_wp2
                        go_roundw
                        case rel => exact ⟨j + 1, by omega, by go_num, P30.out, B30.out⟩
                        case measure => simp [intOf] <;> omega
                · as_aux_lemma =>
                    have hm1 := HMB.out
                    rw [Bool.and_eq_true] at hm1
                    have hq2 : (Q1, Q2, qc) = (keptE (fun e => anyT e DJ) E0, D0, 0) := by rw [HQ.out]; unfold applyR; rw [← HM1.out, if_pos (by rw [hm1.1, hm1.2]; rfl)]
                    simp only [Prod.mk.injEq] at hq2
                    obtain ⟨hq3, hq4, rfl⟩ := hq2
                    have h9 := fun W (hB : Below w.heap.size w W) => apply9_any xt.f xt.g g xt.l xt.c xt.m xt.d j d E0 D0 DJ W (HTE.out.below hB) HE1.out (HTD.out.below hB) HD1.out (by omega) (by omega) (HRJ.out W hB) HJN.out (by omega) (fun k x hx => mayT_may (HM1.out.symm.trans hm1.1) x (List.mem_of_getElem? hx)) hm1.2
                    rw [← hq3, ← hq4] at h9
                    have HA9 := Lib.hid h9
                    clear h9 hq3 hq4 hm1
                    go_upto_region 18 with fail
                    refine wp_region_held_drew (S := (fun w' => BoxAt w' (g1) #[.slice (some ⟨bt, ot, none⟩) nt ct, .slice g m d, .slice f l c] 26 ∧ RowAt w' (bt) (ot + k * 2) 2 #[.slice xt.f xt.l xt.c, .slice xt.g xt.m xt.d])) (by kernel_rfl) ⟨Pt.out.drew, (HRXT.out.below Bt.out).drew⟩ (fun hS => ?_)
                    refine tkR 0 78 (v := .pointer (some ⟨g1, 0, none⟩)) rfl hS (fun _ _ => by kernel_rfl) ?_
                    refine tkR 1 79 (v := .slice (some ⟨bt, ot, none⟩) nt ct) rfl hS (fun _ h => run_ld1 22 (.tmp 78) g1 0 (by kernel_rfl) (by kernel_rfl) Try.underlying22 rfl ((h.1).get 0 (.slice (some ⟨bt, ot, none⟩) nt ct) rfl)) ?_
                    refine tkR 2 80 (v := .int .i64 k) rfl hS (fun _ _ => by kernel_rfl) ?_
                    refine tkR 3 81 (v := .pointer (some ⟨bt, ot + k * 2, none⟩)) rfl hS (fun _ _ => run_ixN 22 43 (.tmp 79) (.tmp 80) bt ot nt ct k 2 (by kernel_rfl) (by kernel_rfl) (by kernel_rfl) Try.underlying22 (by kernel_rfl) hltk) ?_
                    refine tkR 4 82 (v := .agg #[.slice xt.f xt.l xt.c, .slice xt.g xt.m xt.d]) rfl hS (fun _ h => run_ldN 43 (.tmp 81) bt (ot + k * 2) (by kernel_rfl) (by kernel_rfl) Try.underlying43 rfl (by kernel_rfl) ((h.2).sub 0 _ rfl (Nat.le_of_ble_eq_true rfl))) ?_
                    refine tkR 5 83 (v := .pointer (some ⟨g1, 1, none⟩)) rfl hS (fun _ _ => by kernel_rfl) ?_
                    refine tkR 6 84 (v := .slice g m d) rfl hS (fun _ h => run_ld1 23 (.tmp 83) g1 1 (by kernel_rfl) (by kernel_rfl) Try.underlying23 rfl ((h.1).get 1 (.slice g m d) rfl)) ?_
                    refine tkR 7 85 (v := .int .i64 j) rfl hS (fun _ _ => by kernel_rfl) ?_
                    try simp only [Act.put, List.setIfInBounds_toArray, List.set_cons_zero, List.set_cons_succ]
                    refine wpAnyH_take (i := 8) (oi := ⟨some 86, _, _, _, _, _⟩) (v := ?_) rfl (by kernel_rfl) (by kernel_rfl) (by kernel_rfl) (fun _ _ _ h => h) (Or.inl ⟨by rfl, ?_⟩) hS ?_
                    rotate_left
                    · (intro w' hSw; clear hSw; go_simp; try with_reducible rfl)
                    simp only [Act.put, List.setIfInBounds_toArray, List.set_cons_zero, List.set_cons_succ]
                    try simp only [Act.put, List.setIfInBounds_toArray, List.set_cons_zero, List.set_cons_succ]
                    refine wpAnyH_ready (rs := [9]) (by kernel_rfl) (by simp) ?_
                    refine AllReadyH.cons (o := ⟨some 87, _, _, _, _, _⟩) rfl (fun K hK => ?_) AllReadyH.nil
                    go_simp
                    refine (HA9.out _ (Below.drew Bt.out)).mono ?_
                    rintro e w8 ⟨f8, l8, c8, ga8, d8, rfl, hl8, hE8, hD8, hb8⟩
                    have hz8 := hb8.size
                    try simp at hz8
                    have O98 := Lib.hid (OwnR.mono hE8 (base' := w.heap.size) (by first | omega | (simp; done) | (simp; omega)))
                    have P98 := Lib.hid (OwnR.mono hD8 (base' := w.heap.size) (by first | omega | (simp; done) | (simp; omega)))
                    clear hl8 hE8 hD8
                    refine hK.out _ _ ?_ (fun hS' => ?_)
                    · exact ⟨hS.1.below hb8, hS.2.below hb8⟩
                    clear hK K hS
                    have hS := hS'
                    clear hS'
                    try simp only [Act.put, List.setIfInBounds_toArray, List.set_cons_zero, List.set_cons_succ]
                    refine tkR 10 9 (v := .int .i64 0) rfl hS (fun _ _ => by kernel_rfl) ?_
                    try simp only [Act.put, List.setIfInBounds_toArray, List.set_cons_zero, List.set_cons_succ]
                    refine wpAnyH_ready (rs := [11]) (by kernel_rfl) (by simp) ?_
                    refine AllReadyH.cons (o := ⟨none, _, _, _, _, _⟩) rfl (fun K hK => ?_) AllReadyH.nil
                    refine step_storeB rfl 43 _ _ rfl _ _ _ 43 rfl rfl (by kernel_rfl) (by rfl) (by simp [Value.oneCell']) ((Vt.out.drew).below hb8) ?_
                    refine hK.out _ _ ?_ (fun hS' => ?_)
                    · exact ⟨hS.1.row (show g1 ≠ g6 by omega), hS.2.row (show bt ≠ g6 by omega)⟩
                    clear hK K hS
                    have hS := hS'
                    clear hS'
                    try simp only [Act.put]
                    refine wpAnyH_done (by kernel_rfl) ?_ _
                    try simp only [Act.put, List.setIfInBounds_toArray, List.set_cons_zero, List.set_cons_succ]
                    have P9 := Lib.hid ((((Pt.out.drew).below hb8).row (cs' := #[.slice f8 l8 c8, .slice ga8 xt.m d8]) (show g1 ≠ g6 by omega)))
                    have N9 := Lib.hid ((((Nt.out.drew).below hb8).row (cs' := #[.slice f8 l8 c8, .slice ga8 xt.m d8]) (show bN ≠ g6 by omega)))
                    have X9 := Lib.hid ((((Xt.out.drew).below hb8).row (cs' := #[.slice f8 l8 c8, .slice ga8 xt.m d8]) (show g5 ≠ g6 by omega)))
                    have V9 := Lib.hid ((((Vt.out.drew).below hb8).put (cs' := #[.slice f8 l8 c8, .slice ga8 xt.m d8])))
                    have NE9 := Lib.hid ((((NEt.out.drew).below hb8).rowN (g := g6) (cs := #[.slice f8 l8 c8, .slice ga8 xt.m d8]) (NEt.out.ne_box Vt.out (by decide))))
                    have ND9 := Lib.hid ((((NDt.out.drew).below hb8).rowN (g := g6) (cs := #[.slice f8 l8 c8, .slice ga8 xt.m d8]) (NDt.out.ne_box Vt.out (by decide))))
                    have RW9 := Lib.hid ((((RWt.out.drew).below hb8).rowN (g := g6) (cs := #[.slice f8 l8 c8, .slice ga8 xt.m d8]) (RWt.out.ne_box Vt.out (by decide))))
                    have XE9 := Lib.hid ((((XEt.out.drew).below hb8).rowN (g := g6) (cs := #[.slice f8 l8 c8, .slice ga8 xt.m d8]) (XEt.out.ne_box Vt.out (by decide))))
                    have XD9 := Lib.hid ((((XDt.out.drew).below hb8).rowN (g := g6) (cs := #[.slice f8 l8 c8, .slice ga8 xt.m d8]) (XDt.out.ne_box Vt.out (by decide))))
                    have WE9 := Lib.hid ((O98.out.rowN (g := g6) (cs := #[.slice f8 l8 c8, .slice ga8 xt.m d8]) (O98.out.ne_box ((Vt.out.drew).below hb8) (by decide))))
                    have WD9 := Lib.hid ((P98.out.rowN (g := g6) (cs := #[.slice f8 l8 c8, .slice ga8 xt.m d8]) (P98.out.ne_box ((Vt.out.drew).below hb8) (by decide))))
                    have B9 := Lib.hid ((Below.rowB (g := g6) (bel_trans (Below.drew Bt.out) hb8) (cs := #[.slice f8 l8 c8, .slice ga8 xt.m d8]) (show w.heap.size ≤ g6 by omega)))
                    obtain ⟨W9, hW9⟩ : ∃ W9, W9 = (w8).setRow (g6) #[.slice f8 l8 c8, .slice ga8 xt.m d8] := ⟨_, rfl⟩
                    have hs9 : mt ≤ W9.heap.size := by rw [hW9]; first | exact hst | omega | (simp; omega)
                    rw [← hW9] at P9 N9 X9 V9 NE9 ND9 RW9 XE9 XD9 WE9 WD9 B9 ⊢
                    clear hW9 Pt Nt Xt Vt NEt NDt RWt XEt XDt O98 P98 Bt hst
                    go_upto_region 19 with fail
                    refine wp_region_held_drew (S := (fun w' => BoxAt w' (g5) #[.slice fx lx cx, .slice gx mx dx] 43 ∧ BoxAt w' (g6) #[.slice f8 l8 c8, .slice ga8 xt.m d8] 43 ∧ BoxAt w' (bN) #[.slice fn xt.l cn, .slice gn xt.m dn] 43 ∧ BoxAt w' (g1) #[.slice (some ⟨bt, ot, none⟩) nt ct, .slice g m d, .slice f l c] 26 ∧ RowAt w' (bt) (ot + k * 2) 2 #[.slice xt.f xt.l xt.c, .slice xt.g xt.m xt.d])) (by kernel_rfl) ⟨X9.out.drew, V9.out.drew, N9.out.drew, P9.out.drew, (HRXT.out.below B9.out).drew⟩ (fun hS => ?_)
                    refine tkR 0 88 (v := .int .i64 0) rfl hS (fun _ _ => by kernel_rfl) ?_
                    refine tkR 2 90 (v := .int .i64 0) rfl hS (fun _ _ => by kernel_rfl) ?_
                    try simp only [Act.put, List.setIfInBounds_toArray, List.set_cons_zero, List.set_cons_succ]
                    refine wpAnyH_ready (rs := [1]) (by kernel_rfl) (by simp) ?_
                    refine AllReadyH.cons (o := ⟨some 89, _, _, _, _, _⟩) rfl (fun K hK => ?_) AllReadyH.nil
                    go_simp
                    refine (num10_any _ _).mono ?_
                    rintro e w10 ⟨rfl, rfl⟩
                    refine hK.out _ _ ?_ (fun hS' => ?_)
                    · exact hS
                    clear hK K hS
                    have hS := hS'
                    clear hS'
                    try simp only [Act.put, List.setIfInBounds_toArray, List.set_cons_zero, List.set_cons_succ]
                    try simp only [Act.put, List.setIfInBounds_toArray, List.set_cons_zero, List.set_cons_succ]
                    refine wpAnyH_take (i := 3) (oi := ⟨some 91, _, _, _, _, _⟩) (v := ?_) rfl (by kernel_rfl) (by kernel_rfl) (by kernel_rfl) (fun _ _ _ h => h) (Or.inl ⟨by rfl, ?_⟩) hS ?_
                    rotate_left
                    · (intro w' hSw; clear hSw; go_simp; try with_reducible rfl)
                    simp only [Act.put, List.setIfInBounds_toArray, List.set_cons_zero, List.set_cons_succ]
                    refine tkR 4 92 (v := .bool false) rfl hS (fun _ _ => by kernel_rfl) ?_
                    try simp only [Act.put, List.setIfInBounds_toArray, List.set_cons_zero, List.set_cons_succ]
                    refine wpAnyH_take (i := 5) (oi := ⟨some 93, _, _, _, _, _⟩) (v := ?_) rfl (by kernel_rfl) (by kernel_rfl) (by kernel_rfl) (fun _ _ _ h => h) (Or.inl ⟨by rfl, ?_⟩) hS ?_
                    rotate_left
                    · (intro w' hSw; have c0_0 := (hSw.1).get 0 (.slice fx lx cx) rfl; have c0_1 := (hSw.1).get 1 (.slice gx mx dx) rfl; clear hSw; go_simp; try with_reducible rfl)
                    simp only [Act.put, List.setIfInBounds_toArray, List.set_cons_zero, List.set_cons_succ]
                    try simp only [Act.put, List.setIfInBounds_toArray, List.set_cons_zero, List.set_cons_succ]
                    refine wpAnyH_take (i := 6) (oi := ⟨some 94, _, _, _, _, _⟩) (v := ?_) rfl (by kernel_rfl) (by kernel_rfl) (by kernel_rfl) (fun _ _ _ h => h) (Or.inl ⟨by rfl, ?_⟩) hS ?_
                    rotate_left
                    · (intro w' hSw; have c1_0 := (hSw.2.1).get 0 (.slice f8 l8 c8) rfl; have c1_1 := (hSw.2.1).get 1 (.slice ga8 xt.m d8) rfl; clear hSw; go_simp; try with_reducible rfl)
                    simp only [Act.put, List.setIfInBounds_toArray, List.set_cons_zero, List.set_cons_succ]
                    try simp only [Act.put, List.setIfInBounds_toArray, List.set_cons_zero, List.set_cons_succ]
                    refine wpAnyH_ready (rs := [7]) (by kernel_rfl) (by simp) ?_
                    refine AllReadyH.cons (o := ⟨some 95, _, _, _, _, _⟩) rfl (fun K hK => ?_) AllReadyH.nil
                    go_simp
                    refine (eqT_same10 fx gx f8 ga8 lx cx mx dx l8 c8 xt.m d8 Q1 Q2 _ ((XE9.out.drew)).rows.2 ((XE9.out.drew)).rows.1 ((XD9.out.drew)).rows.2 ((XD9.out.drew)).rows.1 ((WE9.out.drew)).rows.2 ((WE9.out.drew)).rows.1 ((WD9.out.drew)).rows.2 ((WD9.out.drew)).rows.1 (by omega) (by omega)).mono ?_
                    rintro e w11 ⟨rfl, hb11⟩
                    have hz11 := hb11.size
                    try simp at hz11
                    refine hK.out _ _ ?_ (fun hS' => ?_)
                    · exact ⟨hS.1.below hb11, hS.2.1.below hb11, hS.2.2.1.below hb11, hS.2.2.2.1.below hb11, hS.2.2.2.2.below hb11⟩
                    clear hK K hS
                    have hS := hS'
                    clear hS'
                    try simp only [Act.put, List.setIfInBounds_toArray, List.set_cons_zero, List.set_cons_succ]
                    try simp only [Act.put, List.setIfInBounds_toArray, List.set_cons_zero, List.set_cons_succ]
                    refine wpAnyH_take (i := 8) (oi := ⟨some 96, _, _, _, _, _⟩) (v := ?_) rfl (by kernel_rfl) (by kernel_rfl) (by kernel_rfl) (fun _ _ _ h => h) (Or.inl ⟨by rfl, ?_⟩) hS ?_
                    rotate_left
                    · (intro w' hSw; clear hSw; go_simp; try with_reducible rfl)
                    simp only [Act.put, List.setIfInBounds_toArray, List.set_cons_zero, List.set_cons_succ]
                    try simp only [Act.put, List.setIfInBounds_toArray, List.set_cons_zero, List.set_cons_succ]
                    refine wpAnyH_take (i := 9) (oi := ⟨some 97, _, _, _, _, _⟩) (v := ?_) rfl (by kernel_rfl) (by kernel_rfl) (by kernel_rfl) (fun _ _ _ h => h) (Or.inl ⟨by rfl, ?_⟩) hS ?_
                    rotate_left
                    · (intro w' hSw; clear hSw; go_simp; try with_reducible rfl)
                    simp only [Act.put, List.setIfInBounds_toArray, List.set_cons_zero, List.set_cons_succ]
                    refine tkR 10 98 (v := .bool false) rfl hS (fun _ _ => by kernel_rfl) ?_
                    try simp only [Act.put, List.setIfInBounds_toArray, List.set_cons_zero, List.set_cons_succ]
                    refine wpAnyH_take (i := 11) (oi := ⟨some 99, _, _, _, _, _⟩) (v := ?_) rfl (by kernel_rfl) (by kernel_rfl) (by kernel_rfl) (fun _ _ _ h => h) (Or.inl ⟨by rfl, ?_⟩) hS ?_
                    rotate_left
                    · (intro w' hSw; have c2_0 := (hSw.2.2.1).get 0 (.slice fn xt.l cn) rfl; have c2_1 := (hSw.2.2.1).get 1 (.slice gn xt.m dn) rfl; clear hSw; go_simp; try with_reducible rfl)
                    simp only [Act.put, List.setIfInBounds_toArray, List.set_cons_zero, List.set_cons_succ]
                    try simp only [Act.put, List.setIfInBounds_toArray, List.set_cons_zero, List.set_cons_succ]
                    refine wpAnyH_take (i := 12) (oi := ⟨some 100, _, _, _, _, _⟩) (v := ?_) rfl (by kernel_rfl) (by kernel_rfl) (by kernel_rfl) (fun _ _ _ h => h) (Or.inl ⟨by rfl, ?_⟩) hS ?_
                    rotate_left
                    · (intro w' hSw; clear hSw; go_simp; try with_reducible rfl)
                    simp only [Act.put, List.setIfInBounds_toArray, List.set_cons_zero, List.set_cons_succ]
                    try simp only [Act.put, List.setIfInBounds_toArray, List.set_cons_zero, List.set_cons_succ]
                    refine wpAnyH_take (i := 13) (oi := ⟨some 101, _, _, _, _, _⟩) (v := ?_) rfl (by kernel_rfl) (by kernel_rfl) (by kernel_rfl) (fun _ _ _ h => h) (Or.inl ⟨by rfl, ?_⟩) hS ?_
                    rotate_left
                    · (intro w' hSw; have c3_0 := (hSw.2.2.2.1).get 0 (.slice (some ⟨bt, ot, none⟩) nt ct) rfl; clear hSw; go_simp; try with_reducible rfl)
                    simp only [Act.put, List.setIfInBounds_toArray, List.set_cons_zero, List.set_cons_succ]
                    try simp only [Act.put, List.setIfInBounds_toArray, List.set_cons_zero, List.set_cons_succ]
                    refine wpAnyH_take (i := 14) (oi := ⟨some 102, _, _, _, _, _⟩) (v := ?_) rfl (by kernel_rfl) (by kernel_rfl) (by kernel_rfl) (fun _ _ _ h => h) (Or.inl ⟨by rfl, ?_⟩) hS ?_
                    rotate_left
                    · (intro w' hSw; clear hSw; go_simp; try with_reducible rfl)
                    simp only [Act.put, List.setIfInBounds_toArray, List.set_cons_zero, List.set_cons_succ]
                    try simp only [Act.put, List.setIfInBounds_toArray, List.set_cons_zero, List.set_cons_succ]
                    refine wpAnyH_take (i := 15) (oi := ⟨some 103, _, _, _, _, _⟩) (v := ?_) rfl (by kernel_rfl) (by kernel_rfl) (by kernel_rfl) (fun _ _ _ h => h) (Or.inl ⟨by rfl, ?_⟩) hS ?_
                    rotate_left
                    · (intro w' hSw; clear hSw; go_simp; try with_reducible rfl)
                    simp only [Act.put, List.setIfInBounds_toArray, List.set_cons_zero, List.set_cons_succ]
                    try simp only [Act.put, List.setIfInBounds_toArray, List.set_cons_zero, List.set_cons_succ]
                    refine wpAnyH_take (i := 16) (oi := ⟨some 104, _, _, _, _, _⟩) (v := ?_) rfl (by kernel_rfl) (by kernel_rfl) (by kernel_rfl) (fun _ _ _ h => h) (Or.inl ⟨by rfl, ?_⟩) hS ?_
                    rotate_left
                    · (intro w' hSw; have c4_0 := (hSw.2.2.2.2).get0 (.slice xt.f xt.l xt.c) (by decide) rfl; have c4_1 := (hSw.2.2.2.2).get 1 (.slice xt.g xt.m xt.d) (by decide) rfl; clear hSw; go_simp; try with_reducible rfl)
                    simp only [Act.put, List.setIfInBounds_toArray, List.set_cons_zero, List.set_cons_succ]
                    try simp only [Act.put, List.setIfInBounds_toArray, List.set_cons_zero, List.set_cons_succ]
                    refine wpAnyH_ready (rs := [17]) (by kernel_rfl) (by simp) ?_
                    refine AllReadyH.cons (o := ⟨some 105, _, _, _, _, _⟩) rfl (fun K hK => ?_) AllReadyH.nil
                    go_simp
                    refine (eqT_same10 fn gn xt.f xt.g xt.l cn xt.m dn xt.l xt.c xt.m xt.d E0 D0 _ (((NE9.out.drew).below hb11)).rows.2 (((NE9.out.drew).below hb11)).rows.1 (((ND9.out.drew).below hb11)).rows.2 (((ND9.out.drew).below hb11)).rows.1 (HTE.out.below (bel_trans (Below.drew B9.out) hb11)) HE1.out (HTD.out.below (bel_trans (Below.drew B9.out) hb11)) HD1.out (by omega) (by omega)).mono ?_
                    rintro e w12 ⟨rfl, hb12⟩
                    have hz12 := hb12.size
                    try simp at hz12
                    refine hK.out _ _ ?_ (fun hS' => ?_)
                    · exact ⟨hS.1.below hb12, hS.2.1.below hb12, hS.2.2.1.below hb12, hS.2.2.2.1.below hb12, hS.2.2.2.2.below hb12⟩
                    clear hK K hS
                    have hS := hS'
                    clear hS'
                    try simp only [Act.put, List.setIfInBounds_toArray, List.set_cons_zero, List.set_cons_succ]
                    try simp only [Act.put, List.setIfInBounds_toArray, List.set_cons_zero, List.set_cons_succ]
                    refine wpAnyH_take (i := 18) (oi := ⟨some 106, _, _, _, _, _⟩) (v := ?_) rfl (by kernel_rfl) (by kernel_rfl) (by kernel_rfl) (fun _ _ _ h => h) (Or.inl ⟨by rfl, ?_⟩) hS ?_
                    rotate_left
                    · (intro w' hSw; clear hSw; go_simp; try with_reducible rfl)
                    simp only [Act.put, List.setIfInBounds_toArray, List.set_cons_zero, List.set_cons_succ]
                    try simp only [Act.put, List.setIfInBounds_toArray, List.set_cons_zero, List.set_cons_succ]
                    refine wpAnyH_take (i := 19) (oi := ⟨some 107, _, _, _, _, _⟩) (v := ?_) rfl (by kernel_rfl) (by kernel_rfl) (by kernel_rfl) (fun _ _ _ h => h) (Or.inl ⟨by rfl, ?_⟩) hS ?_
                    rotate_left
                    · (intro w' hSw; clear hSw; go_simp; try with_reducible rfl)
                    simp only [Act.put, List.setIfInBounds_toArray, List.set_cons_zero, List.set_cons_succ]
                    refine tkR 20 108 (v := .bool false) rfl hS (fun _ _ => by kernel_rfl) ?_
                    try simp only [Act.put, List.setIfInBounds_toArray, List.set_cons_zero, List.set_cons_succ]
                    refine wpAnyH_take (i := 21) (oi := ⟨some 109, _, _, _, _, _⟩) (v := ?_) rfl (by kernel_rfl) (by kernel_rfl) (by kernel_rfl) (fun _ _ _ h => h) (Or.inl ⟨by rfl, ?_⟩) hS ?_
                    rotate_left
                    · (intro w' hSw; clear hSw; go_simp; try with_reducible rfl)
                    simp only [Act.put, List.setIfInBounds_toArray, List.set_cons_zero, List.set_cons_succ]
                    try simp only [Act.put, List.setIfInBounds_toArray, List.set_cons_zero, List.set_cons_succ]
                    refine wpAnyH_take (i := 22) (oi := ⟨some 110, _, _, _, _, _⟩) (v := ?_) rfl (by kernel_rfl) (by kernel_rfl) (by kernel_rfl) (fun _ _ _ h => h) (Or.inl ⟨by rfl, ?_⟩) hS ?_
                    rotate_left
                    · (intro w' hSw; clear hSw; go_simp; try with_reducible rfl)
                    simp only [Act.put, List.setIfInBounds_toArray, List.set_cons_zero, List.set_cons_succ]
                    try simp only [Act.put, List.setIfInBounds_toArray, List.set_cons_zero, List.set_cons_succ]
                    refine wpAnyH_take (i := 23) (oi := ⟨some 111, _, _, _, _, _⟩) (v := ?_) rfl (by kernel_rfl) (by kernel_rfl) (by kernel_rfl) (fun _ _ _ h => h) (Or.inl ⟨by rfl, ?_⟩) hS ?_
                    rotate_left
                    · (intro w' hSw; have c3_1 := (hSw.2.2.2.1).get 1 (.slice g m d) rfl; clear hSw; go_simp; try with_reducible rfl)
                    simp only [Act.put, List.setIfInBounds_toArray, List.set_cons_zero, List.set_cons_succ]
                    try simp only [Act.put, List.setIfInBounds_toArray, List.set_cons_zero, List.set_cons_succ]
                    refine wpAnyH_take (i := 24) (oi := ⟨some 112, _, _, _, _, _⟩) (v := ?_) rfl (by kernel_rfl) (by kernel_rfl) (by kernel_rfl) (fun _ _ _ h => h) (Or.inl ⟨by rfl, ?_⟩) hS ?_
                    rotate_left
                    · (intro w' hSw; clear hSw; go_simp; try with_reducible rfl)
                    simp only [Act.put, List.setIfInBounds_toArray, List.set_cons_zero, List.set_cons_succ]
                    try simp only [Act.put, List.setIfInBounds_toArray, List.set_cons_zero, List.set_cons_succ]
                    refine wpAnyH_take (i := 25) (oi := ⟨some 113, _, _, _, _, _⟩) (v := ?_) rfl (by kernel_rfl) (by kernel_rfl) (by kernel_rfl) (fun _ _ _ h => h) (Or.inl ⟨by rfl, ?_⟩) hS ?_
                    rotate_left
                    · (intro w' hSw; clear hSw; go_simp; try with_reducible rfl)
                    simp only [Act.put, List.setIfInBounds_toArray, List.set_cons_zero, List.set_cons_succ]
                    try simp only [Act.put, List.setIfInBounds_toArray, List.set_cons_zero, List.set_cons_succ]
                    refine wpAnyH_ready (rs := [26]) (by kernel_rfl) (by simp) ?_
                    refine AllReadyH.cons (o := ⟨some 114, _, _, _, _, _⟩) rfl (fun K hK => ?_) AllReadyH.nil
                    go_simp
                    refine (eqV_same fr g j cr j d DJ _ ((((RW9.out.drew).below hb11).below hb12)).rows.2 ((((RW9.out.drew).below hb11).below hb12)).rows.1 (HRJ.out _ (bel_trans (bel_trans (Below.drew B9.out) hb11) hb12)) HJN.out (by omega)).mono ?_
                    rintro e w13 ⟨rfl, hb13⟩
                    have hz13 := hb13.size
                    try simp at hz13
                    refine hK.out _ _ ?_ (fun hS' => ?_)
                    · exact ⟨hS.1.below hb13, hS.2.1.below hb13, hS.2.2.1.below hb13, hS.2.2.2.1.below hb13, hS.2.2.2.2.below hb13⟩
                    clear hK K hS
                    have hS := hS'
                    clear hS'
                    try simp only [Act.put, List.setIfInBounds_toArray, List.set_cons_zero, List.set_cons_succ]
                    try simp only [Act.put, List.setIfInBounds_toArray, List.set_cons_zero, List.set_cons_succ]
                    refine wpAnyH_take (i := 27) (oi := ⟨some 115, _, _, _, _, _⟩) (v := ?_) rfl (by kernel_rfl) (by kernel_rfl) (by kernel_rfl) (fun _ _ _ h => h) (Or.inl ⟨by rfl, ?_⟩) hS ?_
                    rotate_left
                    · (intro w' hSw; clear hSw; go_simp; try with_reducible rfl)
                    simp only [Act.put, List.setIfInBounds_toArray, List.set_cons_zero, List.set_cons_succ]
                    try simp only [Act.put, List.setIfInBounds_toArray, List.set_cons_zero, List.set_cons_succ]
                    refine wpAnyH_take (i := 28) (oi := ⟨some 116, _, _, _, _, _⟩) (v := ?_) rfl (by kernel_rfl) (by kernel_rfl) (by kernel_rfl) (fun _ _ _ h => h) (Or.inl ⟨by rfl, ?_⟩) hS ?_
                    rotate_left
                    · (intro w' hSw; clear hSw; go_simp; try with_reducible rfl)
                    simp only [Act.put, List.setIfInBounds_toArray, List.set_cons_zero, List.set_cons_succ]
                    refine wpAnyH_done (by kernel_rfl) ?_ _
                    try simp only [Act.put, List.setIfInBounds_toArray, List.set_cons_zero, List.set_cons_succ]
                    have P14 := Lib.hid (((((P9.out.drew).below hb11).below hb12).below hb13))
                    have N14 := Lib.hid (((((N9.out.drew).below hb11).below hb12).below hb13))
                    have X14 := Lib.hid (((((X9.out.drew).below hb11).below hb12).below hb13))
                    have V14 := Lib.hid (((((V9.out.drew).below hb11).below hb12).below hb13))
                    have NE14 := Lib.hid (((((NE9.out.drew).below hb11).below hb12).below hb13))
                    have ND14 := Lib.hid (((((ND9.out.drew).below hb11).below hb12).below hb13))
                    have RW14 := Lib.hid (((((RW9.out.drew).below hb11).below hb12).below hb13))
                    have XE14 := Lib.hid (((((XE9.out.drew).below hb11).below hb12).below hb13))
                    have XD14 := Lib.hid (((((XD9.out.drew).below hb11).below hb12).below hb13))
                    have WE14 := Lib.hid (((((WE9.out.drew).below hb11).below hb12).below hb13))
                    have WD14 := Lib.hid (((((WD9.out.drew).below hb11).below hb12).below hb13))
                    have B14 := Lib.hid ((bel_trans (bel_trans (bel_trans (Below.drew B9.out) hb11) hb12) hb13))
                    obtain ⟨W14, hW14⟩ : ∃ W14, W14 = w13 := ⟨_, rfl⟩
                    have hs14 : mt ≤ W14.heap.size := by rw [hW14]; first | exact hs9 | omega | (simp; omega)
                    rw [← hW14] at P14 N14 X14 V14 NE14 ND14 RW14 XE14 XD14 WE14 WD14 B14 ⊢
                    clear hW14 P9 N9 X9 V9 NE9 ND9 RW9 XE9 XD9 WE9 WD9 B9 hs9
                    have Xc0 := X14.out.get 0 (.slice fx lx cx) rfl
                    have Xc1 := X14.out.get 1 (.slice gx mx dx) rfl
                    go_wp2_with fail
                    refine (spoilS_any w.heap.size fx gx lx cx mx dx Q1 Q2 _ XE14.out XD14.out (by omega) (by omega)).mono ?_
                    rintro e w15 ⟨rfl, va15, hga15, hgb15⟩
                    have hza15 := hga15.size
                    have hzb15 := hgb15.size
                    clear Xc0 Xc1
                    go_upto_region 22 with fail
                    have P16 := Lib.hid (((P14.out.grown hga15 (XE14.out.ne_box P14.out (by decide))).grown hgb15 ((XD14.out.grownO XE14.out (by decide) hga15).ne_box (P14.out.grown hga15 (XE14.out.ne_box P14.out (by decide))) (by decide))))
                    have N16 := Lib.hid (((N14.out.grown hga15 (XE14.out.ne_box N14.out (by decide))).grown hgb15 ((XD14.out.grownO XE14.out (by decide) hga15).ne_box (N14.out.grown hga15 (XE14.out.ne_box N14.out (by decide))) (by decide))))
                    have X16 := Lib.hid (((X14.out.grown hga15 (XE14.out.ne_box X14.out (by decide))).grown hgb15 ((XD14.out.grownO XE14.out (by decide) hga15).ne_box (X14.out.grown hga15 (XE14.out.ne_box X14.out (by decide))) (by decide))))
                    have V16 := Lib.hid (((V14.out.grown hga15 (XE14.out.ne_box V14.out (by decide))).grown hgb15 ((XD14.out.grownO XE14.out (by decide) hga15).ne_box (V14.out.grown hga15 (XE14.out.ne_box V14.out (by decide))) (by decide))))
                    have NE16 := Lib.hid (((OwnR.keptN NE14.out hga15 HAE.out).grownO (XD14.out.grownO XE14.out (by decide) hga15) (by decide) hgb15))
                    have ND16 := Lib.hid ((OwnR.keptN (ND14.out.grownO XE14.out (by decide) hga15) hgb15 HAD.out))
                    have B16 := Lib.hid (((B14.out.grown hga15 (by first | omega | (simp; omega)) (fun k hk => Nat.le_trans (show w.heap.size ≤ w.heap.size by omega) (XE14.out.blk k hk))).grown hgb15 (by first | omega | (simp; omega)) (fun k hk => Nat.le_trans (show w.heap.size ≤ w.heap.size by omega) ((XD14.out.grownO XE14.out (by decide) hga15).blk k hk))))
                    obtain ⟨W16, hW16⟩ : ∃ W16, W16 = w15 := ⟨_, rfl⟩
                    have hs16 : mt ≤ W16.heap.size := by rw [hW16]; first | exact hs14 | omega | (simp; omega)
                    rw [← hW16] at P16 N16 X16 V16 NE16 ND16 B16 ⊢
                    clear hW16 P14 N14 X14 V14 NE14 ND14 B14 hs14
                    refine wp_region_held_drew (S := (fun w' => BoxAt w' (bN) #[.slice fn xt.l cn, .slice gn xt.m dn] 43 ∧ BoxAt w' (g1) #[.slice (some ⟨bt, ot, none⟩) nt ct, .slice g m d, .slice f l c] 26 ∧ RowAt w' (bt) (ot + k * 2) 2 #[.slice xt.f xt.l xt.c, .slice xt.g xt.m xt.d])) (by kernel_rfl) ⟨N16.out.drew, P16.out.drew, (HRXT.out.below B16.out).drew⟩ (fun hS => ?_)
                    refine tkR 0 119 (v := .agg #[.slice fn xt.l cn, .slice gn xt.m dn]) rfl hS (fun _ h => run_ldN 43 (.tmp 5) bN 0 (by kernel_rfl) (by kernel_rfl) Try.underlying43 rfl (by kernel_rfl) ((h.1).sub 0 _ rfl)) ?_
                    refine tkR 1 120 (v := .pointer (some ⟨g1, 0, none⟩)) rfl hS (fun _ _ => by kernel_rfl) ?_
                    refine tkR 2 121 (v := .slice (some ⟨bt, ot, none⟩) nt ct) rfl hS (fun _ h => run_ld1 22 (.tmp 120) g1 0 (by kernel_rfl) (by kernel_rfl) Try.underlying22 rfl ((h.2.1).get 0 (.slice (some ⟨bt, ot, none⟩) nt ct) rfl)) ?_
                    refine tkR 3 122 (v := .int .i64 k) rfl hS (fun _ _ => by kernel_rfl) ?_
                    refine tkR 4 123 (v := .pointer (some ⟨bt, ot + k * 2, none⟩)) rfl hS (fun _ _ => run_ixN 22 43 (.tmp 121) (.tmp 122) bt ot nt ct k 2 (by kernel_rfl) (by kernel_rfl) (by kernel_rfl) Try.underlying22 (by kernel_rfl) hltk) ?_
                    refine tkR 5 124 (v := .agg #[.slice xt.f xt.l xt.c, .slice xt.g xt.m xt.d]) rfl hS (fun _ h => run_ldN 43 (.tmp 123) bt (ot + k * 2) (by kernel_rfl) (by kernel_rfl) Try.underlying43 rfl (by kernel_rfl) ((h.2.2).sub 0 _ rfl (Nat.le_of_ble_eq_true rfl))) ?_
                    try simp only [Act.put, List.setIfInBounds_toArray, List.set_cons_zero, List.set_cons_succ]
                    refine wpAnyH_ready (rs := [6]) (by kernel_rfl) (by simp) ?_
                    refine AllReadyH.cons (o := ⟨some 125, _, _, _, _, _⟩) rfl (fun K hK => ?_) AllReadyH.nil
                    go_simp
                    refine (eqT_same10 fn gn xt.f xt.g xt.l cn xt.m dn xt.l xt.c xt.m xt.d E0 D0 _ ((NE16.out.drew)).rows.2 ((NE16.out.drew)).rows.1 ((ND16.out.drew)).rows.2 ((ND16.out.drew)).rows.1 (HTE.out.below (Below.drew B16.out)) HE1.out (HTD.out.below (Below.drew B16.out)) HD1.out (by omega) (by omega)).mono ?_
                    rintro e w17 ⟨rfl, hb17⟩
                    have hz17 := hb17.size
                    try simp at hz17
                    refine hK.out _ _ ?_ (fun hS' => ?_)
                    · exact ⟨hS.1.below hb17, hS.2.1.below hb17, hS.2.2.below hb17⟩
                    clear hK K hS
                    have hS := hS'
                    clear hS'
                    try simp only [Act.put, List.setIfInBounds_toArray, List.set_cons_zero, List.set_cons_succ]
                    try simp only [Act.put, List.setIfInBounds_toArray, List.set_cons_zero, List.set_cons_succ]
                    refine wpAnyH_take (i := 7) (oi := ⟨some 126, _, _, _, _, _⟩) (v := ?_) rfl (by kernel_rfl) (by kernel_rfl) (by kernel_rfl) (fun _ _ _ h => h) (Or.inl ⟨by rfl, ?_⟩) hS ?_
                    rotate_left
                    · (intro w' hSw; clear hSw; go_simp; try with_reducible rfl)
                    simp only [Act.put, List.setIfInBounds_toArray, List.set_cons_zero, List.set_cons_succ]
                    refine wpAnyH_done (by kernel_rfl) ?_ _
                    try simp only [Act.put, List.setIfInBounds_toArray, List.set_cons_zero, List.set_cons_succ]
                    have P18 := Lib.hid (((P16.out.drew).below hb17))
                    have N18 := Lib.hid (((N16.out.drew).below hb17))
                    have X18 := Lib.hid (((X16.out.drew).below hb17))
                    have V18 := Lib.hid (((V16.out.drew).below hb17))
                    have NE18 := Lib.hid (((NE16.out.drew).below hb17))
                    have ND18 := Lib.hid (((ND16.out.drew).below hb17))
                    have B18 := Lib.hid ((bel_trans (Below.drew B16.out) hb17))
                    obtain ⟨W18, hW18⟩ : ∃ W18, W18 = w17 := ⟨_, rfl⟩
                    have hs18 : mt ≤ W18.heap.size := by rw [hW18]; first | exact hs16 | omega | (simp; omega)
                    rw [← hW18] at P18 N18 X18 V18 NE18 ND18 B18 ⊢
                    clear hW18 P16 N16 X16 V16 NE16 ND16 B16 hs16
                    go_upto_region 24 with fail
                    by_cases hj0 : j = 0
                    · have ej0 : ((j : Int) == 0) = true := by rw [hj0]; rfl
                      go_wp2
                      go_roundw
                      case rel => exact ⟨j + 1, by omega, by go_num, P18.out, B18.out⟩
                      case measure => simp [intOf] <;> omega
                    · as_aux_lemma =>
                        have ej0 : ((j : Int) == 0) = false := by simp; omega
                        obtain ⟨jp, hjp⟩ : ∃ jp, jp + 1 = j := ⟨j - 1, by omega⟩
                        have jpm : jp < m := by omega
                        have jp0 : (0 : Int) ≤ (jp : Int) := by omega
                        have jp1 : (jp : Int) < (m : Int) := by omega
                        have jw : IntKind.i64.wrap ((j : Int) - 1) = (jp : Int) := by rw [IntWalk.i64_in _ (by omega)]; omega
                        clear hj0
                        obtain ⟨xp, hxp⟩ := rows_some HO.out jpm
                        have HXp := Lib.hid hxp
                        obtain ⟨bp, op, hgp, hrp⟩ := HD.out jp xp hxp
                        have HRpI := Lib.hid (show RowAt w bp (op + jp * 4) 4 #[.int .i64 xp.k, .int .i64 xp.vm, .int .i64 xp.sp, .int .i64 xp.pg] from hrp)
                        have hbp : bp < w.heap.size := hrp.lt
                        clear hrp hxp
                        subst hgp
                        have hlt0 := fun W (h1 : OwnR KE W w.heap.size (.slice fn xt.l cn) E0) (h2 : OwnR KI W w.heap.size (.slice gn xt.m dn) D0) => laterC fn gn xt.l cn xt.m dn E0 D0 xp W h1.rows.2 h1.rows.1 h2.rows.2 h2.rows.1 (by omega) (by omega) h1.fit.1 h1.fit.2.1 h1.fit.2.2 h2.fit.2.2
                        obtain ⟨o5, ho5⟩ : ∃ o5, o5 = mayIn xp := ⟨_, rfl⟩
                        have HI5 := Lib.hid (show ∀ W, Calls Try.prog 15 #[invV xp] W fun r w' => r = .returned (.bool o5) ∧ Below W.heap.size W w' from by rw [ho5]; exact fun W => inval9_any xp W)
                        obtain ⟨l8, hl8⟩ : ∃ l8, l8 = decide ((xt.m : Int) < 8) := ⟨_, rfl⟩
                        have hue : laterR E0 D0 xp = if (o1 && o5) = true then (if l8 = true then (E0, D0 ++ [xp], 0) else ([], [], 5)) else ([], [], 1) := later_if HM1.out ho5 (by rw [hl8, HD1.out])
                        obtain ⟨⟨U1, U2, uc⟩, hU⟩ : ∃ q, q = laterR E0 D0 xp := ⟨_, rfl⟩
                        have HUL := Lib.hid (laterR_len hU)
                        rw [← hU] at hlt0
                        unfold EndF at hlt0
                        simp only at hlt0
                        have HLT := Lib.hid hlt0
                        have HUE := Lib.hid (hU.trans hue)
                        have dl8 := hl8.symm
                        clear hlt0 hU hue hl8 ho5
                        unfold invV invC at HI5 HLT
                        have hul1 : U1.length ≤ 600 := by have := HUL.out.1; have := HE1.out; omega
                        have hul2 : U2.length ≤ 601 := by have := HUL.out.2; have := HD1.out; omega
                        go_upto_region 25 with fail
                        go_cut [13, 14] (fun s13 s14 wx => ∃ (bY : Nat) (fy : Option Addr) (ly : Nat) (cy : Nat) (gy : Option Addr) (my : Nat) (dy : Nat), s13 = .pointer (some ⟨bY, 0, none⟩) ∧ s14 = .int .i64 uc ∧ mt ≤ bY ∧ Hid (Below W18.heap.size W18 wx) ∧ Hid (OwnR KE wx (w.heap.size) (.slice fy ly cy) (U1)) ∧ Hid (OwnR KI wx (w.heap.size) (.slice gy my dy) (U2)) ∧ Hid (BoxAt wx bY #[.slice fy ly cy, .slice gy my dy] 43))
                        case first =>
                          rename_i JJ KK hJJ hKK
                          have BZ := Lib.hid (Below.refl W18.heap.size W18)
                          refine wp_region_held_drew (S := (fun w' => BoxAt w' (bN) #[.slice fn xt.l cn, .slice gn xt.m dn] 43 ∧ BoxAt w' (g1) #[.slice (some ⟨bt, ot, none⟩) nt ct, .slice (some ⟨bp, op, none⟩) m d, .slice f l c] 26 ∧ RowAt w' (bp) (op + jp * 4) 4 #[.int .i64 xp.k, .int .i64 xp.vm, .int .i64 xp.sp, .int .i64 xp.pg])) (by kernel_rfl) ⟨N18.out.drew, P18.out.drew, (HRpI.out.below B18.out).drew⟩ (fun hS => ?_)
                          refine tkR 0 130 (v := .agg #[.slice fn xt.l cn, .slice gn xt.m dn]) rfl hS (fun _ h => run_ldN 43 (.tmp 5) bN 0 (by kernel_rfl) (by kernel_rfl) Try.underlying43 rfl (by kernel_rfl) ((h.1).sub 0 _ rfl)) ?_
                          refine tkR 1 131 (v := .pointer (some ⟨g1, 1, none⟩)) rfl hS (fun _ _ => by kernel_rfl) ?_
                          refine tkR 2 132 (v := .slice (some ⟨bp, op, none⟩) m d) rfl hS (fun _ h => run_ld1 23 (.tmp 131) g1 1 (by kernel_rfl) (by kernel_rfl) Try.underlying23 rfl ((h.2.1).get 1 (.slice (some ⟨bp, op, none⟩) m d) rfl)) ?_
                          refine tkR 3 133 (v := .int .i64 j) rfl hS (fun _ _ => by kernel_rfl) ?_
                          try simp only [Act.put, List.setIfInBounds_toArray, List.set_cons_zero, List.set_cons_succ]
                          refine wpAnyH_take (i := 4) (oi := ⟨some 134, _, _, _, _, _⟩) (v := ?_) rfl (by kernel_rfl) (by kernel_rfl) (by kernel_rfl) (fun _ _ _ h => h) (Or.inl ⟨by rfl, ?_⟩) hS ?_
                          rotate_left
                          · (intro w' hSw; clear hSw; go_simp; try with_reducible rfl)
                          simp only [Act.put, List.setIfInBounds_toArray, List.set_cons_zero, List.set_cons_succ]
                          refine tkR 5 135 (v := .pointer (some ⟨bp, op + jp * 4, none⟩)) rfl hS (fun _ _ => run_ixN 23 32 (.tmp 132) (.tmp 134) bp op m d jp 4 (by kernel_rfl) (by kernel_rfl) (by kernel_rfl) Try.underlying23 (by kernel_rfl) jpm) ?_
                          refine tkR 6 136 (v := .agg #[.int .i64 xp.k, .int .i64 xp.vm, .int .i64 xp.sp, .int .i64 xp.pg]) rfl hS (fun _ h => run_ldN 32 (.tmp 135) bp (op + jp * 4) (by kernel_rfl) (by kernel_rfl) Try.underlying32 rfl (by kernel_rfl) ((h.2.2).sub 0 _ rfl (Nat.le_of_ble_eq_true rfl))) ?_
                          try simp only [Act.put, List.setIfInBounds_toArray, List.set_cons_zero, List.set_cons_succ]
                          refine wpAnyH_ready (rs := [7, 11]) (by kernel_rfl) (by simp) ?_
                          refine AllReadyH.cons (o := ⟨some 137, _, _, _, _, _⟩) rfl (fun K hK => ?_) ?_
                          · go_simp
                            refine (HLT.out _ (NE18.out.drew) (ND18.out.drew)).mono ?_
                            rintro e w20 ⟨fy, ly, cy, gy, my, dy, rfl, hly, hmy, hEy, hDy, hb20⟩
                            have hz20 := hb20.size
                            try simp at hz20
                            have HLY := Lib.hid hly
                            have HMY := Lib.hid hmy
                            clear hly hmy
                            refine hK.out _ _ ?_ (fun hS' => ?_)
                            · exact ⟨hS.1.below hb20, hS.2.1.below hb20, hS.2.2.below hb20⟩
                            clear hK K hS
                            have hS := hS'
                            clear hS'
                            try simp only [Act.put, List.setIfInBounds_toArray, List.set_cons_zero, List.set_cons_succ]
                            refine tkR 8 129 (v := .tuple #[.agg #[.slice fy ly cy, .slice gy my dy], .int .i64 uc]) rfl hS (fun _ _ => by kernel_rfl) ?_
                            refine tkR 9 138 (v := .agg #[.slice fy ly cy, .slice gy my dy]) rfl hS (fun _ _ => by kernel_rfl) ?_
                            refine tkR 10 139 (v := .int .i64 uc) rfl hS (fun _ _ => by kernel_rfl) ?_
                            try simp only [Act.put, List.setIfInBounds_toArray, List.set_cons_zero, List.set_cons_succ]
                            refine wpAnyH_ready (rs := [11]) (by kernel_rfl) (by simp) ?_
                            refine AllReadyH.cons (o := ⟨some 13, _, _, _, _, _⟩) rfl (fun K hK => ?_) AllReadyH.nil
                            go_simp
                            refine hK.out _ _ ?_ (fun hS' => ?_)
                            · exact ⟨hS.1.alloc _, hS.2.1.alloc _, hS.2.2.alloc _⟩
                            clear hK K hS
                            have hS := hS'
                            clear hS'
                            try simp only [Act.put, List.setIfInBounds_toArray, List.set_cons_zero, List.set_cons_succ]
                            try simp only [Act.put, List.setIfInBounds_toArray, List.set_cons_zero, List.set_cons_succ]
                            refine wpAnyH_ready (rs := [12]) (by kernel_rfl) (by simp) ?_
                            refine AllReadyH.cons (o := ⟨none, _, _, _, _, _⟩) rfl (fun K hK => ?_) AllReadyH.nil
                            refine step_storeB rfl 43 _ _ rfl _ _ _ 43 rfl rfl (by kernel_rfl) (by rfl) (by simp [Value.oneCell']) (BoxAt.newAt (w20) #[.slice none 0 0, .slice none 0 0] 43 (w20.heap.size) (by first | omega | (simp; done) | (simp; omega))) ?_
                            refine hK.out _ _ ?_ (fun hS' => ?_)
                            · exact ⟨hS.1.row (show bN ≠ w20.heap.size by omega), hS.2.1.row (show g1 ≠ w20.heap.size by omega), hS.2.2.row (show bp ≠ w20.heap.size by omega)⟩
                            clear hK K hS
                            have hS := hS'
                            clear hS'
                            try simp only [Act.put]
                            refine tkR 13 14 (v := .int .i64 uc) rfl hS (fun _ _ => by kernel_rfl) ?_
                            refine wpAnyH_done (by kernel_rfl) ?_ _
                            try simp only [Act.put, List.setIfInBounds_toArray, List.set_cons_zero, List.set_cons_succ]
                            show KK _ _
                            refine hKK _ _ (Met.intro (hJJ _ _ ?_))
                            (repeat apply Exists.intro)
                            refine ⟨?_, rfl⟩
                            refine ⟨w20.heap.size, fy, ly, cy, gy, my, dy, rfl, rfl, (by omega), (Below.rowB (g := w20.heap.size) (bel_alloc (bel_trans (Below.drew BZ.out) hb20) (.cells #[.slice none 0 0, .slice none 0 0] 43)) (cs := #[.slice fy ly cy, .slice gy my dy]) (show W18.heap.size ≤ w20.heap.size by omega)), (((OwnR.mono hEy (base' := w.heap.size) (by first | omega | (simp; done) | (simp; omega))).alloc (.cells #[.slice none 0 0, .slice none 0 0] 43)).rowN (cs := #[.slice fy ly cy, .slice gy my dy]) (fun he => absurd (hEy.blt _ he) (by first | omega | (simp; omega)))), (((OwnR.mono hDy (base' := w.heap.size) (by first | omega | (simp; done) | (simp; omega))).alloc (.cells #[.slice none 0 0, .slice none 0 0] 43)).rowN (cs := #[.slice fy ly cy, .slice gy my dy]) (fun he => absurd (hDy.blt _ he) (by first | omega | (simp; omega)))), ((BoxAt.newAt (w20) #[.slice none 0 0, .slice none 0 0] 43 (w20.heap.size) (by first | omega | (simp; done) | (simp; omega))).put (cs' := #[.slice fy ly cy, .slice gy my dy]))⟩
                          refine AllReadyH.cons (o := ⟨some 13, _, _, _, _, _⟩) rfl (fun K hK => ?_) AllReadyH.nil
                          go_simp
                          refine hK.out _ _ ?_ (fun hS' => ?_)
                          · exact ⟨hS.1.alloc _, hS.2.1.alloc _, hS.2.2.alloc _⟩
                          clear hK K hS
                          have hS := hS'
                          clear hS'
                          try simp only [Act.put, List.setIfInBounds_toArray, List.set_cons_zero, List.set_cons_succ]
                          try simp only [Act.put, List.setIfInBounds_toArray, List.set_cons_zero, List.set_cons_succ]
                          refine wpAnyH_ready (rs := [7]) (by kernel_rfl) (by simp) ?_
                          refine AllReadyH.cons (o := ⟨some 137, _, _, _, _, _⟩) rfl (fun K hK => ?_) AllReadyH.nil
                          go_simp
                          refine (HLT.out _ ((NE18.out.drew).alloc (.cells #[.slice none 0 0, .slice none 0 0] 43)) ((ND18.out.drew).alloc (.cells #[.slice none 0 0, .slice none 0 0] 43))).mono ?_
                          rintro e w20 ⟨fy, ly, cy, gy, my, dy, rfl, hly, hmy, hEy, hDy, hb20⟩
                          have hz20 := hb20.size
                          try simp at hz20
                          have HLY := Lib.hid hly
                          have HMY := Lib.hid hmy
                          clear hly hmy
                          refine hK.out _ _ ?_ (fun hS' => ?_)
                          · exact ⟨hS.1.below hb20, hS.2.1.below hb20, hS.2.2.below hb20⟩
                          clear hK K hS
                          have hS := hS'
                          clear hS'
                          try simp only [Act.put, List.setIfInBounds_toArray, List.set_cons_zero, List.set_cons_succ]
                          refine tkR 8 129 (v := .tuple #[.agg #[.slice fy ly cy, .slice gy my dy], .int .i64 uc]) rfl hS (fun _ _ => by kernel_rfl) ?_
                          refine tkR 9 138 (v := .agg #[.slice fy ly cy, .slice gy my dy]) rfl hS (fun _ _ => by kernel_rfl) ?_
                          refine tkR 10 139 (v := .int .i64 uc) rfl hS (fun _ _ => by kernel_rfl) ?_
                          try simp only [Act.put, List.setIfInBounds_toArray, List.set_cons_zero, List.set_cons_succ]
                          refine wpAnyH_ready (rs := [12]) (by kernel_rfl) (by simp) ?_
                          refine AllReadyH.cons (o := ⟨none, _, _, _, _, _⟩) rfl (fun K hK => ?_) AllReadyH.nil
                          refine step_storeB rfl 43 _ _ rfl _ _ _ 43 rfl rfl (by kernel_rfl) (by rfl) (by simp [Value.oneCell']) ((BoxAt.newAt ((W18).drew) #[.slice none 0 0, .slice none 0 0] 43 (W18.heap.size) (by first | omega | (simp; done) | (simp; omega))).below hb20) ?_
                          refine hK.out _ _ ?_ (fun hS' => ?_)
                          · exact ⟨hS.1.row (show bN ≠ W18.heap.size by omega), hS.2.1.row (show g1 ≠ W18.heap.size by omega), hS.2.2.row (show bp ≠ W18.heap.size by omega)⟩
                          clear hK K hS
                          have hS := hS'
                          clear hS'
                          try simp only [Act.put]
                          refine tkR 13 14 (v := .int .i64 uc) rfl hS (fun _ _ => by kernel_rfl) ?_
                          refine wpAnyH_done (by kernel_rfl) ?_ _
                          try simp only [Act.put, List.setIfInBounds_toArray, List.set_cons_zero, List.set_cons_succ]
                          show KK _ _
                          refine hKK _ _ (Met.intro (hJJ _ _ ?_))
                          (repeat apply Exists.intro)
                          refine ⟨?_, rfl⟩
                          refine ⟨W18.heap.size, fy, ly, cy, gy, my, dy, rfl, rfl, (by omega), (Below.rowB (g := W18.heap.size) (bel_trans (bel_alloc (Below.drew BZ.out) (.cells #[.slice none 0 0, .slice none 0 0] 43)) hb20) (cs := #[.slice fy ly cy, .slice gy my dy]) (show W18.heap.size ≤ W18.heap.size by omega)), ((OwnR.mono hEy (base' := w.heap.size) (by first | omega | (simp; done) | (simp; omega))).rowN (cs := #[.slice fy ly cy, .slice gy my dy]) (hEy.ne_box ((BoxAt.newAt ((W18).drew) #[.slice none 0 0, .slice none 0 0] 43 (W18.heap.size) (by first | omega | (simp; done) | (simp; omega))).below hb20) (by decide))), ((OwnR.mono hDy (base' := w.heap.size) (by first | omega | (simp; done) | (simp; omega))).rowN (cs := #[.slice fy ly cy, .slice gy my dy]) (hDy.ne_box ((BoxAt.newAt ((W18).drew) #[.slice none 0 0, .slice none 0 0] 43 (W18.heap.size) (by first | omega | (simp; done) | (simp; omega))).below hb20) (by decide))), (((BoxAt.newAt ((W18).drew) #[.slice none 0 0, .slice none 0 0] 43 (W18.heap.size) (by first | omega | (simp; done) | (simp; omega))).below hb20).put (cs' := #[.slice fy ly cy, .slice gy my dy]))⟩
                        case rest =>
                        obtain ⟨bY, fy, ly, cy, gy, my, dy, rfl, rfl, hbY19, QB19, QNYE19, QNYD19, QbY19⟩ := hcut
                        obtain ⟨w19c, rfl⟩ : ∃ w19c : World, w19c = wc := ⟨_, rfl⟩
                        have hz19 := QB19.out.size
                        have P19 := Lib.hid (P18.out.below QB19.out)
                        have N19 := Lib.hid (N18.out.below QB19.out)
                        have X19 := Lib.hid (X18.out.below QB19.out)
                        have V19 := Lib.hid (V18.out.below QB19.out)
                        have NE19 := Lib.hid (NE18.out.below QB19.out)
                        have ND19 := Lib.hid (ND18.out.below QB19.out)
                        have B19 := Lib.hid (bel_trans B18.out QB19.out)
                        obtain ⟨m19, hm19⟩ : ∃ m19, m19 = w19c.heap.size := ⟨_, rfl⟩
                        have hbm19 : mt ≤ m19 := by omega
                        have hlY19 : bY + 1 ≤ m19 := by rw [hm19]; exact QbY19.out.lt
                        have hs19 : m19 ≤ w19c.heap.size := by omega
                        clear hm19 hz19 P18 N18 X18 V18 NE18 ND18 B18 QB19 hs18
                        go_upto_region 27 with (refine wpList_storeB rfl 43 _ _ rfl (g6) #[.slice none 0 0, .slice none 0 0] _ 43 rfl rfl (by kernel_rfl) (by rfl) (by simp [Value.oneCell']) V19.out ?_)
                        have P20 := Lib.hid ((P19.out.row (cs' := #[.slice none 0 0, .slice none 0 0]) (show g1 ≠ g6 by omega)))
                        have N20 := Lib.hid ((N19.out.row (cs' := #[.slice none 0 0, .slice none 0 0]) (show bN ≠ g6 by omega)))
                        have X20 := Lib.hid ((X19.out.row (cs' := #[.slice none 0 0, .slice none 0 0]) (show g5 ≠ g6 by omega)))
                        have V20 := Lib.hid ((V19.out.put (cs' := #[.slice none 0 0, .slice none 0 0])))
                        have Y20 := Lib.hid ((QbY19.out.row (cs' := #[.slice none 0 0, .slice none 0 0]) (show bY ≠ g6 by omega)))
                        have NE20 := Lib.hid ((NE19.out.rowN (g := g6) (cs := #[.slice none 0 0, .slice none 0 0]) (NE19.out.ne_box V19.out (by decide))))
                        have ND20 := Lib.hid ((ND19.out.rowN (g := g6) (cs := #[.slice none 0 0, .slice none 0 0]) (ND19.out.ne_box V19.out (by decide))))
                        have YE20 := Lib.hid ((QNYE19.out.rowN (g := g6) (cs := #[.slice none 0 0, .slice none 0 0]) (QNYE19.out.ne_box V19.out (by decide))))
                        have YD20 := Lib.hid ((QNYD19.out.rowN (g := g6) (cs := #[.slice none 0 0, .slice none 0 0]) (QNYD19.out.ne_box V19.out (by decide))))
                        have B20 := Lib.hid ((Below.rowB (g := g6) B19.out (cs := #[.slice none 0 0, .slice none 0 0]) (show w.heap.size ≤ g6 by omega)))
                        obtain ⟨W20, hW20⟩ : ∃ W20, W20 = (w19c).setRow (g6) #[.slice none 0 0, .slice none 0 0] := ⟨_, rfl⟩
                        have hs20 : m19 ≤ W20.heap.size := by rw [hW20]; first | exact hs19 | omega | (simp; omega)
                        rw [← hW20] at P20 N20 X20 V20 Y20 NE20 ND20 YE20 YD20 B20 ⊢
                        clear hW20 P19 N19 X19 V19 QbY19 NE19 ND19 QNYE19 QNYD19 B19 hs19
                        have Pc0 := P20.out.get 0 (.slice (some ⟨bt, ot, none⟩) nt ct) rfl
                        have yXT := (HRXT.out.below B20.out)
                        have yXT0 := yXT.get0 (.slice xt.f xt.l xt.c) (by decide) rfl
                        have yXT1 := yXT.get 1 (.slice xt.g xt.m xt.d) (by decide) rfl
                        clear yXT
                        go_wp2_with fail
                        refine (HT9.out _ B20.out).mono ?_
                        rintro e w21 ⟨rfl, hb21⟩
                        have hz21 := hb21.size
                        have P21 := Lib.hid (P20.out.below hb21)
                        have N21 := Lib.hid (N20.out.below hb21)
                        have X21 := Lib.hid (X20.out.below hb21)
                        have V21 := Lib.hid (V20.out.below hb21)
                        have Y21 := Lib.hid (Y20.out.below hb21)
                        have NE21 := Lib.hid (NE20.out.below hb21)
                        have ND21 := Lib.hid (ND20.out.below hb21)
                        have YE21 := Lib.hid (YE20.out.below hb21)
                        have YD21 := Lib.hid (YD20.out.below hb21)
                        have B21 := Lib.hid ((bel_trans B20.out hb21))
                        skip
                        have hs21 : m19 ≤ w21.heap.size := by omega
                        clear Pc0 yXT0 yXT1
                        clear P20 N20 X20 V20 Y20 NE20 ND20 YE20 YD20 B20 hs20 hb21 hz21
                        cases hq22 : o1
                        · go_upto_region 32 with fail
                          have hq2 := HUE.out
                          simp [hq22] at hq2
                          obtain ⟨hu1, hu2, rfl⟩ := hq2
                          have ZE1 := Lib.hid (show OwnR KE w21 w.heap.size (.slice none 0 0) U1 from by rw [hu1]; exact OwnR.nil _ _)
                          have ZD1 := Lib.hid (show OwnR KI w21 w.heap.size (.slice none 0 0) U2 from by rw [hu2]; exact OwnR.nil _ _)
                          have hly6 : ly ≤ 600 := by have := (YE21.out).rows.1; omega
                          have hmy6 : my ≤ 601 := by have := (YD21.out).rows.1; omega
                          clear hu1 hu2
                          go_wp2_with fail
                          refine (num10_any _ _).mono ?_
                          rintro e w23 ⟨rfl, rfl⟩
                          have Yc0 := Y21.out.get 0 (.slice fy ly cy) rfl
                          have Yc1 := Y21.out.get 1 (.slice gy my dy) rfl
                          have Vc0 := V21.out.get 0 (.slice none 0 0) rfl
                          have Vc1 := V21.out.get 1 (.slice none 0 0) rfl
                          go_wp2_with fail
                          refine (eqT_same10 fy gy none none ly cy my dy 0 0 0 0 U1 U2 _ (YE21.out).rows.2 (YE21.out).rows.1 (YD21.out).rows.2 (YD21.out).rows.1 (ZE1.out).rows.2 (ZE1.out).rows.1 (ZD1.out).rows.2 (ZD1.out).rows.1 (by omega) (by omega)).mono ?_
                          rintro e w24 ⟨rfl, hb24⟩
                          have hz24 := hb24.size
                          have P24 := Lib.hid (P21.out.below hb24)
                          have N24 := Lib.hid (N21.out.below hb24)
                          have X24 := Lib.hid (X21.out.below hb24)
                          have V24 := Lib.hid (V21.out.below hb24)
                          have Y24 := Lib.hid (Y21.out.below hb24)
                          have NE24 := Lib.hid (NE21.out.below hb24)
                          have ND24 := Lib.hid (ND21.out.below hb24)
                          have YE24 := Lib.hid (YE21.out.below hb24)
                          have YD24 := Lib.hid (YD21.out.below hb24)
                          have ZE24 := Lib.hid (ZE1.out.below hb24)
                          have ZD24 := Lib.hid (ZD1.out.below hb24)
                          have B24 := Lib.hid ((bel_trans B21.out hb24))
                          skip
                          have hs24 : m19 ≤ w24.heap.size := by omega
                          clear Yc0 Yc1 Vc0 Vc1
                          clear P21 N21 X21 V21 Y21 NE21 ND21 YE21 YD21 ZE1 ZD1 B21 hs21 hb24 hz24
                          go_wp2
                          go_roundw
                          case rel => exact ⟨j + 1, by omega, by go_num, P24.out, B24.out⟩
                          case measure => simp [intOf] <;> omega
                        have Pc1 := P21.out.get 1 (.slice (some ⟨bp, op, none⟩) m d) rfl
                        have yRp := (HRpI.out.below B21.out)
                        have yRp0 := yRp.get0 (.int .i64 xp.k) (by decide) rfl
                        have yRp1 := yRp.get 1 (.int .i64 xp.vm) (by decide) rfl
                        have yRp2 := yRp.get 2 (.int .i64 xp.sp) (by decide) rfl
                        have yRp3 := yRp.get 3 (.int .i64 xp.pg) (by decide) rfl
                        clear yRp
                        go_wp2_with fail
                        refine (HI5.out _).mono ?_
                        rintro e w23 ⟨rfl, hb23⟩
                        have hz23 := hb23.size
                        have P23 := Lib.hid (P21.out.below hb23)
                        have N23 := Lib.hid (N21.out.below hb23)
                        have X23 := Lib.hid (X21.out.below hb23)
                        have V23 := Lib.hid (V21.out.below hb23)
                        have Y23 := Lib.hid (Y21.out.below hb23)
                        have NE23 := Lib.hid (NE21.out.below hb23)
                        have ND23 := Lib.hid (ND21.out.below hb23)
                        have YE23 := Lib.hid (YE21.out.below hb23)
                        have YD23 := Lib.hid (YD21.out.below hb23)
                        have B23 := Lib.hid ((bel_trans B21.out hb23))
                        skip
                        have hs23 : m19 ≤ w23.heap.size := by omega
                        clear Pc1 yRp0 yRp1 yRp2 yRp3
                        clear P21 N21 X21 V21 Y21 NE21 ND21 YE21 YD21 B21 hs21 hb23 hz23
                        cases hq24 : o5
                        · go_upto_region 32 with fail
                          have hq2 := HUE.out
                          simp [hq22, hq24] at hq2
                          obtain ⟨hu1, hu2, rfl⟩ := hq2
                          have ZE1 := Lib.hid (show OwnR KE w23 w.heap.size (.slice none 0 0) U1 from by rw [hu1]; exact OwnR.nil _ _)
                          have ZD1 := Lib.hid (show OwnR KI w23 w.heap.size (.slice none 0 0) U2 from by rw [hu2]; exact OwnR.nil _ _)
                          have hly6 : ly ≤ 600 := by have := (YE23.out).rows.1; omega
                          have hmy6 : my ≤ 601 := by have := (YD23.out).rows.1; omega
                          clear hu1 hu2
                          go_wp2_with fail
                          refine (num10_any _ _).mono ?_
                          rintro e w25 ⟨rfl, rfl⟩
                          have Yc0 := Y23.out.get 0 (.slice fy ly cy) rfl
                          have Yc1 := Y23.out.get 1 (.slice gy my dy) rfl
                          have Vc0 := V23.out.get 0 (.slice none 0 0) rfl
                          have Vc1 := V23.out.get 1 (.slice none 0 0) rfl
                          go_wp2_with fail
                          refine (eqT_same10 fy gy none none ly cy my dy 0 0 0 0 U1 U2 _ (YE23.out).rows.2 (YE23.out).rows.1 (YD23.out).rows.2 (YD23.out).rows.1 (ZE1.out).rows.2 (ZE1.out).rows.1 (ZD1.out).rows.2 (ZD1.out).rows.1 (by omega) (by omega)).mono ?_
                          rintro e w26 ⟨rfl, hb26⟩
                          have hz26 := hb26.size
                          have P26 := Lib.hid (P23.out.below hb26)
                          have N26 := Lib.hid (N23.out.below hb26)
                          have X26 := Lib.hid (X23.out.below hb26)
                          have V26 := Lib.hid (V23.out.below hb26)
                          have Y26 := Lib.hid (Y23.out.below hb26)
                          have NE26 := Lib.hid (NE23.out.below hb26)
                          have ND26 := Lib.hid (ND23.out.below hb26)
                          have YE26 := Lib.hid (YE23.out.below hb26)
                          have YD26 := Lib.hid (YD23.out.below hb26)
                          have ZE26 := Lib.hid (ZE1.out.below hb26)
                          have ZD26 := Lib.hid (ZD1.out.below hb26)
                          have B26 := Lib.hid ((bel_trans B23.out hb26))
                          skip
                          have hs26 : m19 ≤ w26.heap.size := by omega
                          clear Yc0 Yc1 Vc0 Vc1
                          clear P23 N23 X23 V23 Y23 NE23 ND23 YE23 YD23 ZE1 ZD1 B23 hs23 hb26 hz26
                          go_wp2
                          go_roundw
                          case rel => exact ⟨j + 1, by omega, by go_num, P26.out, B26.out⟩
                          case measure => simp [intOf] <;> omega
                        have Pc0 := P23.out.get 0 (.slice (some ⟨bt, ot, none⟩) nt ct) rfl
                        have yXT := (HRXT.out.below B23.out)
                        have yXT1 := yXT.get 1 (.slice xt.g xt.m xt.d) (by decide) rfl
                        clear yXT
                        cases hq25 : l8
                        · go_upto_region 32 with fail
                          clear Pc0 yXT1
                          have hq2 := HUE.out
                          simp [hq22, hq24, hq25] at hq2
                          obtain ⟨hu1, hu2, rfl⟩ := hq2
                          have ZE1 := Lib.hid (show OwnR KE w23 w.heap.size (.slice none 0 0) U1 from by rw [hu1]; exact OwnR.nil _ _)
                          have ZD1 := Lib.hid (show OwnR KI w23 w.heap.size (.slice none 0 0) U2 from by rw [hu2]; exact OwnR.nil _ _)
                          have hly6 : ly ≤ 600 := by have := (YE23.out).rows.1; omega
                          have hmy6 : my ≤ 601 := by have := (YD23.out).rows.1; omega
                          clear hu1 hu2
                          go_wp2_with fail
                          refine (num10_any _ _).mono ?_
                          rintro e w26 ⟨rfl, rfl⟩
                          have Yc0 := Y23.out.get 0 (.slice fy ly cy) rfl
                          have Yc1 := Y23.out.get 1 (.slice gy my dy) rfl
                          have Vc0 := V23.out.get 0 (.slice none 0 0) rfl
                          have Vc1 := V23.out.get 1 (.slice none 0 0) rfl
                          go_wp2_with fail
                          refine (eqT_same10 fy gy none none ly cy my dy 0 0 0 0 U1 U2 _ (YE23.out).rows.2 (YE23.out).rows.1 (YD23.out).rows.2 (YD23.out).rows.1 (ZE1.out).rows.2 (ZE1.out).rows.1 (ZD1.out).rows.2 (ZD1.out).rows.1 (by omega) (by omega)).mono ?_
                          rintro e w27 ⟨rfl, hb27⟩
                          have hz27 := hb27.size
                          have P27 := Lib.hid (P23.out.below hb27)
                          have N27 := Lib.hid (N23.out.below hb27)
                          have X27 := Lib.hid (X23.out.below hb27)
                          have V27 := Lib.hid (V23.out.below hb27)
                          have Y27 := Lib.hid (Y23.out.below hb27)
                          have NE27 := Lib.hid (NE23.out.below hb27)
                          have ND27 := Lib.hid (ND23.out.below hb27)
                          have YE27 := Lib.hid (YE23.out.below hb27)
                          have YD27 := Lib.hid (YD23.out.below hb27)
                          have ZE27 := Lib.hid (ZE1.out.below hb27)
                          have ZD27 := Lib.hid (ZD1.out.below hb27)
                          have B27 := Lib.hid ((bel_trans B23.out hb27))
                          skip
                          have hs27 : m19 ≤ w27.heap.size := by omega
                          clear Yc0 Yc1 Vc0 Vc1
                          clear P23 N23 X23 V23 Y23 NE23 ND23 YE23 YD23 ZE1 ZD1 B23 hs23 hb27 hz27
                          go_wp2
                          go_roundw
                          case rel => exact ⟨j + 1, by omega, by go_num, P27.out, B27.out⟩
                          case measure => simp [intOf] <;> omega
                        have yXT := (HRXT.out.below B23.out)
                        have yXT0 := yXT.get0 (.slice xt.f xt.l xt.c) (by decide) rfl
                        clear yXT
                        go_wp2_with fail
                        refine (HCT.out _ B23.out).mono ?_
                        rintro e w26 ⟨fz, cz, gz, dz, rfl, hEz, hDz, hb26⟩
                        have HYZ := Lib.hid (own_apart2 YD23.out hDz)
                        have OZE := Lib.hid (OwnR.mono hEz (base' := w.heap.size) (by first | omega | (simp; done) | (simp; omega)))
                        have OZD := Lib.hid (OwnR.mono hDz (base' := w.heap.size) (by first | omega | (simp; done) | (simp; omega)))
                        clear hEz hDz
                        have hz26 := hb26.size
                        have P26 := Lib.hid (P23.out.below hb26)
                        have N26 := Lib.hid (N23.out.below hb26)
                        have X26 := Lib.hid (X23.out.below hb26)
                        have V26 := Lib.hid (V23.out.below hb26)
                        have Y26 := Lib.hid (Y23.out.below hb26)
                        have NE26 := Lib.hid (NE23.out.below hb26)
                        have ND26 := Lib.hid (ND23.out.below hb26)
                        have YE26 := Lib.hid (YE23.out.below hb26)
                        have YD26 := Lib.hid (YD23.out.below hb26)
                        have B26 := Lib.hid ((bel_trans B23.out hb26))
                        skip
                        have hs26 : m19 ≤ w26.heap.size := by omega
                        clear Pc0 yXT1 yXT0
                        clear P23 N23 X23 V23 Y23 NE23 ND23 YE23 YD23 B23 hs23 hb26 hz26
                        go_upto_region 31 with (refine wpList_storeB rfl 43 _ _ rfl (g6) #[.slice fz xt.l cz, .slice gz xt.m dz] _ 43 rfl rfl (by kernel_rfl) (by rfl) (by simp [Value.oneCell']) V26.out ?_)
                        have P27 := Lib.hid ((P26.out.row (cs' := #[.slice fz xt.l cz, .slice gz xt.m dz]) (show g1 ≠ g6 by omega)))
                        have N27 := Lib.hid ((N26.out.row (cs' := #[.slice fz xt.l cz, .slice gz xt.m dz]) (show bN ≠ g6 by omega)))
                        have X27 := Lib.hid ((X26.out.row (cs' := #[.slice fz xt.l cz, .slice gz xt.m dz]) (show g5 ≠ g6 by omega)))
                        have V27 := Lib.hid ((V26.out.put (cs' := #[.slice fz xt.l cz, .slice gz xt.m dz])))
                        have Y27 := Lib.hid ((Y26.out.row (cs' := #[.slice fz xt.l cz, .slice gz xt.m dz]) (show bY ≠ g6 by omega)))
                        have NE27 := Lib.hid ((NE26.out.rowN (g := g6) (cs := #[.slice fz xt.l cz, .slice gz xt.m dz]) (NE26.out.ne_box V26.out (by decide))))
                        have ND27 := Lib.hid ((ND26.out.rowN (g := g6) (cs := #[.slice fz xt.l cz, .slice gz xt.m dz]) (ND26.out.ne_box V26.out (by decide))))
                        have YE27 := Lib.hid ((YE26.out.rowN (g := g6) (cs := #[.slice fz xt.l cz, .slice gz xt.m dz]) (YE26.out.ne_box V26.out (by decide))))
                        have YD27 := Lib.hid ((YD26.out.rowN (g := g6) (cs := #[.slice fz xt.l cz, .slice gz xt.m dz]) (YD26.out.ne_box V26.out (by decide))))
                        have ZE27 := Lib.hid ((OZE.out.rowN (g := g6) (cs := #[.slice fz xt.l cz, .slice gz xt.m dz]) (OZE.out.ne_box V26.out (by decide))))
                        have ZD27 := Lib.hid ((OZD.out.rowN (g := g6) (cs := #[.slice fz xt.l cz, .slice gz xt.m dz]) (OZD.out.ne_box V26.out (by decide))))
                        have B27 := Lib.hid ((Below.rowB (g := g6) B26.out (cs := #[.slice fz xt.l cz, .slice gz xt.m dz]) (show w.heap.size ≤ g6 by omega)))
                        obtain ⟨W27, hW27⟩ : ∃ W27, W27 = (w26).setRow (g6) #[.slice fz xt.l cz, .slice gz xt.m dz] := ⟨_, rfl⟩
                        have hs27 : m19 ≤ W27.heap.size := by rw [hW27]; first | exact hs26 | omega | (simp; omega)
                        rw [← hW27] at P27 N27 X27 V27 Y27 NE27 ND27 YE27 YD27 ZE27 ZD27 B27 ⊢
                        clear hW27 P26 N26 X26 V26 Y26 NE26 ND26 YE26 YD26 OZE OZD B26 hs26
                        refine wp_region_tail [11] (fun _ => True) (fun w' => BoxAt w' (g6) #[.slice fz xt.l cz, .slice gz xt.m dz] 43 ∧ BoxAt w' (g1) #[.slice (some ⟨bt, ot, none⟩) nt ct, .slice (some ⟨bp, op, none⟩) m d, .slice f l c] 26 ∧ RowAt w' (bp) (op + jp * 4) 4 #[.int .i64 xp.k, .int .i64 xp.vm, .int .i64 xp.sp, .int .i64 xp.pg]) (by kernel_rfl) ?_
                        have hS : (fun w' => BoxAt w' (g6) #[.slice fz xt.l cz, .slice gz xt.m dz] 43 ∧ BoxAt w' (g1) #[.slice (some ⟨bt, ot, none⟩) nt ct, .slice (some ⟨bp, op, none⟩) m d, .slice f l c] 26 ∧ RowAt w' (bp) (op + jp * 4) 4 #[.int .i64 xp.k, .int .i64 xp.vm, .int .i64 xp.sp, .int .i64 xp.pg]) W27.drew := ⟨V27.out.drew, P27.out.drew, (HRpI.out.below B27.out).drew⟩
                        skip
                        have P28 := Lib.hid ((P27.out.drew))
                        have N28 := Lib.hid ((N27.out.drew))
                        have X28 := Lib.hid ((X27.out.drew))
                        have V28 := Lib.hid ((V27.out.drew))
                        have Y28 := Lib.hid ((Y27.out.drew))
                        have NE28 := Lib.hid ((NE27.out.drew))
                        have ND28 := Lib.hid ((ND27.out.drew))
                        have YE28 := Lib.hid ((YE27.out.drew))
                        have YD28 := Lib.hid ((YD27.out.drew))
                        have ZE28 := Lib.hid ((ZE27.out.drew))
                        have ZD28 := Lib.hid ((ZD27.out.drew))
                        have B28 := Lib.hid ((Below.drew B27.out))
                        obtain ⟨W28, hW28⟩ : ∃ W28, W28 = (W27).drew := ⟨_, rfl⟩
                        have hs28 : m19 ≤ W28.heap.size := by rw [hW28]; first | exact hs27 | omega | (simp; omega)
                        rw [← hW28] at P28 N28 X28 V28 Y28 NE28 ND28 YE28 YD28 ZE28 ZD28 B28 hS ⊢
                        clear hW28 P27 N27 X27 V27 Y27 NE27 ND27 YE27 YD27 ZE27 ZD27 B27 hs27
                        refine tail_read 0 (oi := ⟨some 170, _, _, _, _, _⟩) (v := ?_) rfl (by kernel_rfl) (by kernel_rfl) (by kernel_rfl) (by kernel_rfl) (fun _ _ _ h => h) ⟨trivial, hS⟩ (Or.inl ⟨by rfl, ?_⟩) ?_
                        rotate_left
                        · (intro w' hSw; clear hSw; go_simp; try with_reducible rfl)
                        simp only [Act.put, List.setIfInBounds_toArray, List.set_cons_zero, List.set_cons_succ]
                        refine tail_chain 1 [9, 10, 11] (oi := ⟨some 171, _, _, _, _, _⟩) (v := ?_) rfl (by kernel_rfl) (by kernel_rfl) (by kernel_rfl) (by kernel_rfl) (fun _ _ _ h => h) ⟨trivial, hS⟩ (Or.inl ⟨by rfl, ?_⟩) ?_
                        rotate_left
                        · (intro w' hSw; have c0_1 := (hSw.1).get 1 (.slice gz xt.m dz) rfl; clear hSw; go_simp; try with_reducible rfl)
                        simp only [Act.put, List.setIfInBounds_toArray, List.set_cons_zero, List.set_cons_succ]
                        refine tail_read 2 (oi := ⟨some 172, _, _, _, _, _⟩) (v := ?_) rfl (by kernel_rfl) (by kernel_rfl) (by kernel_rfl) (by kernel_rfl) (fun _ _ _ h => h) ⟨trivial, hS⟩ (Or.inl ⟨by rfl, ?_⟩) ?_
                        rotate_left
                        · (intro w' hSw; clear hSw; go_simp; try with_reducible rfl)
                        simp only [Act.put, List.setIfInBounds_toArray, List.set_cons_zero, List.set_cons_succ]
                        refine tail_chain 3 [6, 7, 8, 9, 10, 11] (oi := ⟨some 173, _, _, _, _, _⟩) (v := ?_) rfl (by kernel_rfl) (by kernel_rfl) (by kernel_rfl) (by kernel_rfl) (fun _ _ _ h => h) ⟨trivial, hS⟩ (Or.inl ⟨by rfl, ?_⟩) ?_
                        rotate_left
                        · (intro w' hSw; have c1_1 := (hSw.2.1).get 1 (.slice (some ⟨bp, op, none⟩) m d) rfl; clear hSw; go_simp; try with_reducible rfl)
                        simp only [Act.put, List.setIfInBounds_toArray, List.set_cons_zero, List.set_cons_succ]
                        refine tail_read 4 (oi := ⟨some 174, _, _, _, _, _⟩) (v := ?_) rfl (by kernel_rfl) (by kernel_rfl) (by kernel_rfl) (by kernel_rfl) (fun _ _ _ h => h) ⟨trivial, hS⟩ (Or.inl ⟨by rfl, ?_⟩) ?_
                        rotate_left
                        · (intro w' hSw; clear hSw; go_simp; try with_reducible rfl)
                        simp only [Act.put, List.setIfInBounds_toArray, List.set_cons_zero, List.set_cons_succ]
                        refine tail_read 5 (oi := ⟨some 175, _, _, _, _, _⟩) (v := ?_) rfl (by kernel_rfl) (by kernel_rfl) (by kernel_rfl) (by kernel_rfl) (fun _ _ _ h => h) ⟨trivial, hS⟩ (Or.inl ⟨by rfl, ?_⟩) ?_
                        rotate_left
                        · (intro w' hSw; clear hSw; go_simp; try with_reducible rfl)
                        simp only [Act.put, List.setIfInBounds_toArray, List.set_cons_zero, List.set_cons_succ]
                        refine tail_read 6 (oi := ⟨some 176, _, _, _, _, _⟩) (v := ?_) rfl (by kernel_rfl) (by kernel_rfl) (by kernel_rfl) (by kernel_rfl) (fun _ _ _ h => h) ⟨trivial, hS⟩ (Or.inl ⟨by rfl, ?_⟩) ?_
                        rotate_left
                        · (intro w' hSw; clear hSw; go_simp; try with_reducible rfl)
                        simp only [Act.put, List.setIfInBounds_toArray, List.set_cons_zero, List.set_cons_succ]
                        refine tail_chain 7 [8, 9, 10, 11] (oi := ⟨some 177, _, _, _, _, _⟩) (v := ?_) rfl (by kernel_rfl) (by kernel_rfl) (by kernel_rfl) (by kernel_rfl) (fun _ _ _ h => h) ⟨trivial, hS⟩ (Or.inl ⟨by rfl, ?_⟩) ?_
                        rotate_left
                        · (intro w' hSw; have c2_0 := (hSw.2.2).get0 (.int .i64 xp.k) (by decide) rfl; have c2_1 := (hSw.2.2).get 1 (.int .i64 xp.vm) (by decide) rfl; have c2_2 := (hSw.2.2).get 2 (.int .i64 xp.sp) (by decide) rfl; have c2_3 := (hSw.2.2).get 3 (.int .i64 xp.pg) (by decide) rfl; clear hSw; go_simp; try with_reducible rfl)
                        simp only [Act.put, List.setIfInBounds_toArray, List.set_cons_zero, List.set_cons_succ]
                        refine tail_one 8 (o := ⟨some 178, _, _, _, _, _⟩) (by kernel_rfl) rfl (fun K hK => ?_)
                        go_simp
                        refine hK.out _ _ ?_ (fun hS' => ?_)
                        · exact ⟨trivial, ⟨hS.1.alloc _, hS.2.1.alloc _, hS.2.2.alloc _⟩⟩
                        clear hK K hS
                        have hS := hS'.2
                        clear hS'
                        try simp only [Act.put, List.setIfInBounds_toArray, List.set_cons_zero, List.set_cons_succ]
                        refine tail_one 9 (o := ⟨some 179, _, _, _, _, _⟩) (by kernel_rfl) rfl (fun K hK => ?_)
                        refine step_rowRl (K := KI) rfl _ _ rfl w.heap.size xt.m 1 _ D0 [xp] rfl (ZD28.out.alloc (.cells #[.int .i64 xp.k, .int .i64 xp.vm, .int .i64 xp.sp, .int .i64 xp.pg] 32)) HD1.out (some ⟨W28.heap.size, 0, none⟩) 1 rfl rfl (RowsAt.one (K := KI) (q := xp) ((BoxAt.newAt (W28) #[.int .i64 xp.k, .int .i64 xp.vm, .int .i64 xp.sp, .int .i64 xp.pg] 32 (W28.heap.size) (by first | omega | (simp; done) | (simp; omega))))) (fun h => by cases h) (by omega) (by first | omega | (simp; omega)) ?_
                        intro f29a c29a w29 hO29 hg29
                        have hz29 := hg29.size
                        try simp at hz29
                        have hSn : (fun w' => BoxAt w' (g6) #[.slice fz xt.l cz, .slice gz xt.m dz] 43 ∧ BoxAt w' (g1) #[.slice (some ⟨bt, ot, none⟩) nt ct, .slice (some ⟨bp, op, none⟩) m d, .slice f l c] 26 ∧ RowAt w' (bp) (op + jp * 4) 4 #[.int .i64 xp.k, .int .i64 xp.vm, .int .i64 xp.sp, .int .i64 xp.pg]) w29 := ⟨hS.1.grown hg29 ((ZD28.out.alloc (.cells #[.int .i64 xp.k, .int .i64 xp.vm, .int .i64 xp.sp, .int .i64 xp.pg] 32)).ne_box (V28.out.alloc (.cells #[.int .i64 xp.k, .int .i64 xp.vm, .int .i64 xp.sp, .int .i64 xp.pg] 32)) (by decide)), hS.2.1.grown hg29 ((ZD28.out.alloc (.cells #[.int .i64 xp.k, .int .i64 xp.vm, .int .i64 xp.sp, .int .i64 xp.pg] 32)).ne_box (P28.out.alloc (.cells #[.int .i64 xp.k, .int .i64 xp.vm, .int .i64 xp.sp, .int .i64 xp.pg] 32)) (by decide)), hS.2.2.grownR hg29 (fun he => absurd ((ZD28.out.alloc (.cells #[.int .i64 xp.k, .int .i64 xp.vm, .int .i64 xp.sp, .int .i64 xp.pg] 32)).blk _ he.symm) (by omega))⟩
                        have P29 := Lib.hid ((P28.out.alloc (.cells #[.int .i64 xp.k, .int .i64 xp.vm, .int .i64 xp.sp, .int .i64 xp.pg] 32)).grown hg29 ((ZD28.out.alloc (.cells #[.int .i64 xp.k, .int .i64 xp.vm, .int .i64 xp.sp, .int .i64 xp.pg] 32)).ne_box (P28.out.alloc (.cells #[.int .i64 xp.k, .int .i64 xp.vm, .int .i64 xp.sp, .int .i64 xp.pg] 32)) (by decide)))
                        have N29 := Lib.hid ((N28.out.alloc (.cells #[.int .i64 xp.k, .int .i64 xp.vm, .int .i64 xp.sp, .int .i64 xp.pg] 32)).grown hg29 ((ZD28.out.alloc (.cells #[.int .i64 xp.k, .int .i64 xp.vm, .int .i64 xp.sp, .int .i64 xp.pg] 32)).ne_box (N28.out.alloc (.cells #[.int .i64 xp.k, .int .i64 xp.vm, .int .i64 xp.sp, .int .i64 xp.pg] 32)) (by decide)))
                        have X29 := Lib.hid ((X28.out.alloc (.cells #[.int .i64 xp.k, .int .i64 xp.vm, .int .i64 xp.sp, .int .i64 xp.pg] 32)).grown hg29 ((ZD28.out.alloc (.cells #[.int .i64 xp.k, .int .i64 xp.vm, .int .i64 xp.sp, .int .i64 xp.pg] 32)).ne_box (X28.out.alloc (.cells #[.int .i64 xp.k, .int .i64 xp.vm, .int .i64 xp.sp, .int .i64 xp.pg] 32)) (by decide)))
                        have V29 := Lib.hid ((V28.out.alloc (.cells #[.int .i64 xp.k, .int .i64 xp.vm, .int .i64 xp.sp, .int .i64 xp.pg] 32)).grown hg29 ((ZD28.out.alloc (.cells #[.int .i64 xp.k, .int .i64 xp.vm, .int .i64 xp.sp, .int .i64 xp.pg] 32)).ne_box (V28.out.alloc (.cells #[.int .i64 xp.k, .int .i64 xp.vm, .int .i64 xp.sp, .int .i64 xp.pg] 32)) (by decide)))
                        have Y29 := Lib.hid ((Y28.out.alloc (.cells #[.int .i64 xp.k, .int .i64 xp.vm, .int .i64 xp.sp, .int .i64 xp.pg] 32)).grown hg29 ((ZD28.out.alloc (.cells #[.int .i64 xp.k, .int .i64 xp.vm, .int .i64 xp.sp, .int .i64 xp.pg] 32)).ne_box (Y28.out.alloc (.cells #[.int .i64 xp.k, .int .i64 xp.vm, .int .i64 xp.sp, .int .i64 xp.pg] 32)) (by decide)))
                        have NE29o := Lib.hid ((NE28.out.alloc (.cells #[.int .i64 xp.k, .int .i64 xp.vm, .int .i64 xp.sp, .int .i64 xp.pg] 32)).grownO (ZD28.out.alloc (.cells #[.int .i64 xp.k, .int .i64 xp.vm, .int .i64 xp.sp, .int .i64 xp.pg] 32)) (by decide) hg29)
                        have YE29o := Lib.hid ((YE28.out.alloc (.cells #[.int .i64 xp.k, .int .i64 xp.vm, .int .i64 xp.sp, .int .i64 xp.pg] 32)).grownO (ZD28.out.alloc (.cells #[.int .i64 xp.k, .int .i64 xp.vm, .int .i64 xp.sp, .int .i64 xp.pg] 32)) (by decide) hg29)
                        have YD29o := Lib.hid (OwnR.keptN (YD28.out.alloc (.cells #[.int .i64 xp.k, .int .i64 xp.vm, .int .i64 xp.sp, .int .i64 xp.pg] 32)) hg29 HYZ.out)
                        have ZE29o := Lib.hid ((ZE28.out.alloc (.cells #[.int .i64 xp.k, .int .i64 xp.vm, .int .i64 xp.sp, .int .i64 xp.pg] 32)).grownO (ZD28.out.alloc (.cells #[.int .i64 xp.k, .int .i64 xp.vm, .int .i64 xp.sp, .int .i64 xp.pg] 32)) (by decide) hg29)
                        have ZD29 := Lib.hid (hO29)
                        have B29 := Lib.hid ((bel_alloc B28.out (.cells #[.int .i64 xp.k, .int .i64 xp.vm, .int .i64 xp.sp, .int .i64 xp.pg] 32)).grown hg29 (show w.heap.size ≤ _ by first | omega | (simp; omega)) (fun k hk => Nat.le_trans (show w.heap.size ≤ w.heap.size by omega) ((ZD28.out.alloc (.cells #[.int .i64 xp.k, .int .i64 xp.vm, .int .i64 xp.sp, .int .i64 xp.pg] 32)).blk k hk)))
                        obtain ⟨g29, hgg29⟩ : ∃ g29, g29 = W28.heap.size := ⟨_, rfl⟩
                        have hs29 : g29 + 1 ≤ w29.heap.size := by omega
                        have hb29 : m19 ≤ g29 := by omega
                        try rw [← hgg29]
                        clear hgg29
                        clear P28 N28 X28 V28 Y28 NE28 ND28 YE28 YD28 ZE28 ZD28 B28 hg29 hO29 hz29 hs28
                        refine hK.out _ _ ?_ (fun hS' => ?_)
                        · exact ⟨trivial, hSn⟩
                        clear hK K hS hSn
                        have hS := hS'.2
                        clear hS'
                        try simp only [Act.put, List.setIfInBounds_toArray, List.set_cons_zero, List.set_cons_succ]
                        refine tail_read 10 (oi := ⟨some 180, _, _, _, _, _⟩) (v := ?_) rfl (by kernel_rfl) (by kernel_rfl) (by kernel_rfl) (by kernel_rfl) (fun _ _ _ h => h) ⟨trivial, hS⟩ (Or.inl ⟨by rfl, ?_⟩) ?_
                        rotate_left
                        · (intro w' hSw; clear hSw; go_simp; try with_reducible rfl)
                        simp only [Act.put, List.setIfInBounds_toArray, List.set_cons_zero, List.set_cons_succ]
                        refine tail_last 11 (o := ⟨none, _, _, _, _, _⟩) (by decide) (by kernel_rfl) rfl (fun K hK => ?_)
                        have zs0 := V29.out.free 1
                        have cs0 := V29.out.get 1 (.slice gz xt.m dz) rfl
                        go_simp
                        clear zs0 cs0
                        refine hK.out _ _ trivial ?_
                        clear hK K
                        try simp only [Act.put, List.setIfInBounds_toArray, List.set_cons_zero, List.set_cons_succ]
                        refine tail_done (by kernel_rfl) ?_
                        clear hS
                        have P30 := Lib.hid ((P29.out.other ⟨g6, 1, none⟩ (.slice f29a (xt.m + 1) c29a) (show g1 ≠ g6 by omega)))
                        have N30 := Lib.hid ((N29.out.other ⟨g6, 1, none⟩ (.slice f29a (xt.m + 1) c29a) (show bN ≠ g6 by omega)))
                        have X30 := Lib.hid ((X29.out.other ⟨g6, 1, none⟩ (.slice f29a (xt.m + 1) c29a) (show g5 ≠ g6 by omega)))
                        have V30 := Lib.hid ((V29.out.set 1 (.slice f29a (xt.m + 1) c29a) #[.slice fz xt.l cz, .slice f29a (xt.m + 1) c29a] rfl))
                        have Y30 := Lib.hid ((Y29.out.other ⟨g6, 1, none⟩ (.slice f29a (xt.m + 1) c29a) (show bY ≠ g6 by omega)))
                        have NE30 := Lib.hid ((NE29o.out.otherN ⟨g6, 1, none⟩ (.slice f29a (xt.m + 1) c29a) (NE29o.out.ne_box V29.out (by decide))))
                        have YE30 := Lib.hid ((YE29o.out.otherN ⟨g6, 1, none⟩ (.slice f29a (xt.m + 1) c29a) (YE29o.out.ne_box V29.out (by decide))))
                        have YD30 := Lib.hid ((YD29o.out.otherN ⟨g6, 1, none⟩ (.slice f29a (xt.m + 1) c29a) (YD29o.out.ne_box V29.out (by decide))))
                        have ZE30 := Lib.hid ((ZE29o.out.otherN ⟨g6, 1, none⟩ (.slice f29a (xt.m + 1) c29a) (ZE29o.out.ne_box V29.out (by decide))))
                        have ZD30 := Lib.hid ((ZD29.out.otherN ⟨g6, 1, none⟩ (.slice f29a (xt.m + 1) c29a) (ZD29.out.ne_box V29.out (by decide))))
                        have B30 := Lib.hid ((Below.setCell B29.out (p := ⟨g6, 1, none⟩) (show w.heap.size ≤ g6 by omega) (.slice f29a (xt.m + 1) c29a)))
                        obtain ⟨W30, hW30⟩ : ∃ W30, W30 = (w29).setCell ⟨g6, 1, none⟩ (.slice f29a (xt.m + 1) c29a) := ⟨_, rfl⟩
                        have hs30 : g29 + 1 ≤ W30.heap.size := by rw [hW30]; first | (simp [World.setCell]; omega) | (simp [World.setCell, World.setRow]; omega) | exact hs29
                        rw [← hW30] at P30 N30 X30 V30 Y30 NE30 YE30 YD30 ZE30 ZD30 B30 ⊢
                        clear hW30 P29 N29 X29 V29 Y29 NE29o YE29o YD29o ZE29o ZD29 B29 hs29
                        go_upto_region 32 with fail
                        have hq2 := HUE.out
                        simp [hq22, hq24, hq25] at hq2
                        obtain ⟨hu1, hu2, rfl⟩ := hq2
                        have ZE1 := Lib.hid (show OwnR KE W30 (w.heap.size) (.slice fz xt.l cz) (U1) from by rw [hu1]; exact ZE30.out)
                        have ZD1 := Lib.hid (show OwnR KI W30 (w.heap.size) (.slice f29a (xt.m + 1) c29a) (U2) from by rw [hu2]; exact ZD30.out)
                        have hly6 : ly ≤ 600 := by have := (YE30.out).rows.1; omega
                        have hmy6 : my ≤ 601 := by have := (YD30.out).rows.1; omega
                        clear hu1 hu2
                        go_wp2_with fail
                        refine (num10_any _ _).mono ?_
                        rintro e w31 ⟨rfl, rfl⟩
                        have Yc0 := Y30.out.get 0 (.slice fy ly cy) rfl
                        have Yc1 := Y30.out.get 1 (.slice gy my dy) rfl
                        have Vc0 := V30.out.get 0 (.slice fz xt.l cz) rfl
                        have Vc1 := V30.out.get 1 (.slice f29a (xt.m + 1) c29a) rfl
                        go_wp2_with fail
                        refine (eqT_same10 fy gy fz f29a ly cy my dy xt.l cz (xt.m + 1) c29a U1 U2 _ (YE30.out).rows.2 (YE30.out).rows.1 (YD30.out).rows.2 (YD30.out).rows.1 (ZE1.out).rows.2 (ZE1.out).rows.1 (ZD1.out).rows.2 (ZD1.out).rows.1 (by omega) (by omega)).mono ?_
                        rintro e w32 ⟨rfl, hb32⟩
                        have hz32 := hb32.size
                        have P32 := Lib.hid (P30.out.below hb32)
                        have N32 := Lib.hid (N30.out.below hb32)
                        have X32 := Lib.hid (X30.out.below hb32)
                        have V32 := Lib.hid (V30.out.below hb32)
                        have Y32 := Lib.hid (Y30.out.below hb32)
                        have NE32 := Lib.hid (NE30.out.below hb32)
                        have YE32 := Lib.hid (YE30.out.below hb32)
                        have YD32 := Lib.hid (YD30.out.below hb32)
                        have ZE32 := Lib.hid (ZE1.out.below hb32)
                        have ZD32 := Lib.hid (ZD1.out.below hb32)
                        have B32 := Lib.hid ((bel_trans B30.out hb32))
                        skip
                        have hs32 : g29 + 1 ≤ w32.heap.size := by omega
                        clear Yc0 Yc1 Vc0 Vc1
                        clear P30 N30 X30 V30 Y30 NE30 YE30 YD30 ZE1 ZD1 B30 hs30 hb32 hz32
                        go_wp2
                        go_roundw
                        case rel => exact ⟨j + 1, by omega, by go_num, P32.out, B32.out⟩
                        case measure => simp [intOf] <;> omega
          · have Pc1 := Ps.out.get 1 (.slice g m d) rfl
            go_wp2
            go_roundw
            case rel => exact ⟨k + 1, by omega, by go_num, Ps.out, Bs.out⟩
            case measure => simp [intOf] <;> omega
      · have Pc0 := Pr.out.get 0 (.slice ft nt ct) rfl
        go_wp2_with fail
        refine (wakes10_any _).mono ?_
        rintro e w3 ⟨rfl, hb3⟩
        have hz3 := hb3.size
        have P3 := Lib.hid (Pr.out.below hb3)
        have B3 := Lib.hid ((bel_trans Br.out hb3))
        skip
        have hs3 : mr ≤ w3.heap.size := by omega
        clear Pc0
        clear Pr Br hsr hb3 hz3
        go_wp2
        go_ret
        exact ⟨rfl, B3.out⟩
  go_wp2
  go_ret
  exact ⟨rfl, B2.out⟩
end Go.Proofs.Ytjohnpbfdpmajaa
