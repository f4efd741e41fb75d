/- Stage 10: a draft, what is taken out of it, Apply: contracts. -/
import Derived.Test.YtjohnpbfdpmajaaIh
import Derived.Test.YtjohnpbfdpmajaaVe
set_option linter.all false
namespace Go.Proofs.Ytjohnpbfdpmajaa
open Go.ChangeShapes Go.WideShapes Go.ChangeAt Go.RowKit Go.Deep Go.Shelf

set_option maxRecDepth 100000 in
set_option maxHeartbeats 3200000 in
theorem draft_any (f g : Option Addr) (l c m d : Nat) (E : List Ety) (D : List Inv) (w : World) (hE : RowsAt KE w f E) (hl : l = E.length) (hD : RowsAt KI w g D) (hm : m = D.length) (hls : l ≤ 90000) (hms : m ≤ 90000) (hf : f = none → c = 0) (hg : g = none → d = 0) :
    Calls Try.prog 46 #[.agg #[.slice f l c, .slice g m d]] w (EndT w E D) := by
  unfold EndT
  rw [← hl, ← hm]
  have HE := Lib.hid (fun W (hB : Below w.heap.size w W) => tclE_any f l c E W (hE.below hB) hl (by omega) hf)
  have HD := Lib.hid (fun W (hB : Below w.heap.size w W) => tclI_any g m d D W (hD.below hB) hm (by omega) hg)
  clear hE hl hD hm hls hms hf hg
  have htw : w.heap.size ≤ w.heap.size := Nat.le_refl _
  have B0 := Lib.hid (Below.refl w.heap.size w)
  go_enter Try.func46, Try.ntmps46
  go_upto_region 1 with fail
  have A1 := Lib.hid (((BoxAt.newAt (w) #[.slice f l c, .slice g m d] 71 (w.heap.size) (by first | omega | (simp; done) | (simp; omega))).alloc (.cells #[.slice none 0 0, .slice none 0 0] 73)))
  have R1 := Lib.hid ((BoxAt.newAt ((w).alloc (.cells #[.slice f l c, .slice g m d] 71)) #[.slice none 0 0, .slice none 0 0] 73 (w.heap.size + 1) (by first | omega | (simp; done) | (simp; omega))))
  have B1 := Lib.hid ((bel_alloc (bel_alloc B0.out (.cells #[.slice f l c, .slice g m d] 71)) (.cells #[.slice none 0 0, .slice none 0 0] 73)))
  obtain ⟨g1, hg1⟩ : ∃ g1, g1 = w.heap.size := ⟨_, rfl⟩
  obtain ⟨W1, hW1⟩ : ∃ W1, W1 = ((w).alloc (.cells #[.slice f l c, .slice g m d] 71)).alloc (.cells #[.slice none 0 0, .slice none 0 0] 73) := ⟨_, rfl⟩
  have hs1 : g1 + 1 + 1 ≤ W1.heap.size := by rw [hW1, hg1]; simp
  rw [← hW1] at A1 R1 B1 ⊢
  have hb1 : w.heap.size ≤ g1 := by omega
  rw [← hg1] at A1 R1 ⊢
  clear hg1
  clear hW1 B0
  refine wp_region_held_drew (S := (fun w' => BoxAt w' (g1) #[.slice f l c, .slice g m d] 71)) (by kernel_rfl) (A1.out.drew) (fun hS => ?_)
  refine tkR 0 3 (v := .pointer (some ⟨g1, 0, none⟩)) rfl hS (fun _ _ => by kernel_rfl) ?_
  refine tkR 1 4 (v := .pointer (some ⟨g1, 0, none⟩)) rfl hS (fun _ _ => by kernel_rfl) ?_
  refine tkR 2 5 (v := .slice f l c) rfl hS (fun _ h => run_ld1 24 (.tmp 4) g1 0 (by kernel_rfl) (by kernel_rfl) Try.underlying24 rfl ((h).get 0 (.slice f l c) rfl)) ?_
  refine tkR 4 7 (v := .pointer (some ⟨g1, 0, none⟩)) rfl hS (fun _ _ => by kernel_rfl) ?_
  refine tkR 5 8 (v := .pointer (some ⟨g1, 1, none⟩)) rfl hS (fun _ _ => by kernel_rfl) ?_
  refine tkR 6 9 (v := .slice g m d) rfl hS (fun _ h => run_ld1 23 (.tmp 8) g1 1 (by kernel_rfl) (by kernel_rfl) Try.underlying23 rfl ((h).get 1 (.slice g m d) rfl)) ?_
  try simp only [Act.put, List.setIfInBounds_toArray, List.set_cons_zero, List.set_cons_succ]
  refine wpAnyH_ready (rs := [3]) (by kernel_rfl) (by simp) ?_
  refine AllReadyH.cons (o := ⟨some 6, _, _, _, _, _⟩) rfl (fun K hK => ?_) AllReadyH.nil
  go_simp
  refine (HE.out _ (Below.drew B1.out)).mono ?_
  rintro e w2 ⟨f2, c2, rfl, hN2, hb2⟩
  have hz2 := hb2.size
  try simp at hz2
  have OE2 := Lib.hid (OwnR.mono hN2 (base' := w.heap.size) (by first | omega | (simp; done) | (simp; omega)))
  refine hK.out _ _ ?_ (fun hS' => ?_)
  · exact (hS.below hb2)
  clear hK K hS
  have hS := hS'
  clear hS'
  try simp only [Act.put, List.setIfInBounds_toArray, List.set_cons_zero, List.set_cons_succ]
  try simp only [Act.put, List.setIfInBounds_toArray, List.set_cons_zero, List.set_cons_succ]
  refine wpAnyH_ready (rs := [7]) (by kernel_rfl) (by simp) ?_
  refine AllReadyH.cons (o := ⟨some 10, _, _, _, _, _⟩) rfl (fun K hK => ?_) AllReadyH.nil
  go_simp
  refine (HD.out _ (bel_trans (Below.drew B1.out) hb2)).mono ?_
  rintro e w3 ⟨f3, c3, rfl, hN3, hb3⟩
  have hz3 := hb3.size
  try simp at hz3
  have OD3 := Lib.hid (OwnR.mono hN3 (base' := w.heap.size) (by first | omega | (simp; done) | (simp; omega)))
  refine hK.out _ _ ?_ (fun hS' => ?_)
  · exact (hS.below hb3)
  clear hK K hS
  have hS := hS'
  clear hS'
  try simp only [Act.put, List.setIfInBounds_toArray, List.set_cons_zero, List.set_cons_succ]
  refine tkR 8 11 (v := .agg #[.slice f2 l c2, .slice f3 m c3]) rfl hS (fun _ _ => by kernel_rfl) ?_
  refine tkR 9 12 (v := .agg #[.slice f2 l c2, .slice f3 m c3]) rfl hS (fun _ _ => by kernel_rfl) ?_
  refine tkR 10 13 (v := .agg #[.slice f2 l c2, .slice f3 m c3]) rfl hS (fun _ _ => by kernel_rfl) ?_
  try simp only [Act.put, List.setIfInBounds_toArray, List.set_cons_zero, List.set_cons_succ]
  refine wpAnyH_ready (rs := [11]) (by kernel_rfl) (by simp) ?_
  refine AllReadyH.cons (o := ⟨none, _, _, _, _, _⟩) rfl (fun K hK => ?_) AllReadyH.nil
  refine step_storeB rfl 73 _ _ rfl _ _ _ 73 rfl rfl (by kernel_rfl) (by rfl) (by simp [Value.oneCell']) (((R1.out.drew).below hb2).below hb3) ?_
  refine hK.out _ _ ?_ (fun hS' => ?_)
  · exact (hS.row (show g1 ≠ g1 + 1 by omega))
  clear hK K hS
  have hS := hS'
  clear hS'
  try simp only [Act.put]
  refine wpAnyH_done (by kernel_rfl) ?_ _
  try simp only [Act.put, List.setIfInBounds_toArray, List.set_cons_zero, List.set_cons_succ]
  have A4 := Lib.hid (((((A1.out.drew).below hb2).below hb3).row (cs' := #[.slice f2 l c2, .slice f3 m c3]) (show g1 ≠ g1 + 1 by omega)))
  have R4 := Lib.hid (((((R1.out.drew).below hb2).below hb3).put (cs' := #[.slice f2 l c2, .slice f3 m c3])))
  have E4 := Lib.hid (((OE2.out.below hb3).rowN (g := g1 + 1) (cs := #[.slice f2 l c2, .slice f3 m c3]) (OE2.out.ne_box ((R1.out.drew).below hb2) (by decide))))
  have D4 := Lib.hid ((OD3.out.rowN (g := g1 + 1) (cs := #[.slice f2 l c2, .slice f3 m c3]) (OD3.out.ne_box (((R1.out.drew).below hb2).below hb3) (by decide))))
  have B4 := Lib.hid ((Below.rowB (g := g1 + 1) (bel_trans (bel_trans (Below.drew B1.out) hb2) hb3) (cs := #[.slice f2 l c2, .slice f3 m c3]) (show w.heap.size ≤ g1 + 1 by omega)))
  obtain ⟨W4, hW4⟩ : ∃ W4, W4 = (w3).setRow (g1 + 1) #[.slice f2 l c2, .slice f3 m c3] := ⟨_, rfl⟩
  have hs4 : g1 + 1 + 1 ≤ W4.heap.size := by rw [hW4]; first | exact hs1 | omega | (simp; omega)
  rw [← hW4] at A4 R4 E4 D4 B4 ⊢
  clear hW4 A1 R1 OE2 OD3 B1 hs1
  go_wp2
  have RR := R4.out
  refine bodyPost_ret (v := .agg #[.slice f2 l c2, .slice f3 m c3]) (by simp [results, Try.results46, go_sem, RR.get 0 (.slice f2 l c2) rfl, RR.get 1 (.slice f3 m c3) rfl]) rfl ?_
  exact ⟨f2, c2, f3, c3, rfl, E4.out, D4.out, B4.out⟩
/-- What forget leaves. -/
def EndG (w : World) (base db : Nat) (f : Option Addr) (l c : Nat) (L : List Ety) (r : Ending) (w' : World) : Prop :=
  ∃ n v, r = .returned (.tuple #[]) ∧ n = L.length ∧ OwnR KE v base (.slice f n c) L ∧ w.grownBy v (Value.slice f l c).ownBlock ∧ w' = v.setCell ⟨db, 0, none⟩ (.slice f n c)
set_option maxRecDepth 100000 in
set_option maxHeartbeats 3200000 in
theorem forget_any (f g gd : Option Addr) (l c m d md dd db base : Nat) (E : List Ety) (D2 : List Inv) (w : World) (hT : BoxAt w db #[.slice f l c, .slice g m d] 73) (hO : OwnR KE w base (.slice f l c) E) (hl : l ≤ 90000) (hb : base ≤ w.heap.size) (he : ∀ (k : Nat) (x : Ety), E[k]? = some x → mayEn x = true) (hv : allV D2 = true) (ho : md = D2.length) (hm : md ≤ 1000000) (hR : ∀ W, Below base w W → RowsAt KI W gd D2) :
    Calls Try.prog 47 #[.pointer (some ⟨db, 0, none⟩), .slice gd md dd] w (EndG w base db f l c (keptE (fun e => anyT e D2) E)) := by
  unfold EndG
  have HDF := Lib.hid (fun qb W (hO : OwnR KE W base (.slice f l c) E) (hB : Below w.heap.size w W) (hQ : BoxAt W qb #[.slice gd md dd] 23) => delf_any f l c qb base E (fun e => anyT e D2) #[.slice gd md dd] 23 W hO hl (Nat.le_trans hb hB.size) hQ (by decide) (fun k x hx W2 hQ2 hB2 => closed_any x qb gd md dd D2 (he k x hx) hv W2 hQ2 (hR W2 ((hB.mono hb).trans hB2)) ho hm))
  have hdb : db < w.heap.size := hT.lt
  have T0 := Lib.hid hT
  have E0 := Lib.hid hO
  clear hT hO he hv hR ho
  have htw : w.heap.size ≤ w.heap.size := Nat.le_refl _
  have B0 := Lib.hid (Below.refl w.heap.size w)
  go_enter Try.func47, Try.ntmps47
  go_upto_region 1 with fail
  have T1 := Lib.hid ((T0.out.alloc (.cells #[.slice gd md dd] 23)))
  have Q1 := Lib.hid ((BoxAt.newAt (w) #[.slice gd md dd] 23 (w.heap.size) (by first | omega | (simp; done) | (simp; omega))))
  have E1 := Lib.hid ((E0.out.alloc (.cells #[.slice gd md dd] 23)))
  have B1 := Lib.hid ((bel_alloc B0.out (.cells #[.slice gd md dd] 23)))
  obtain ⟨g1, hg1⟩ : ∃ g1, g1 = w.heap.size := ⟨_, rfl⟩
  obtain ⟨W1, hW1⟩ : ∃ W1, W1 = (w).alloc (.cells #[.slice gd md dd] 23) := ⟨_, rfl⟩
  have hs1 : g1 + 1 ≤ W1.heap.size := by rw [hW1, hg1]; simp
  rw [← hW1] at T1 Q1 E1 B1 ⊢
  have hb1 : w.heap.size ≤ g1 := by omega
  rw [← hg1] at Q1 ⊢
  clear hg1
  clear hW1 T0 E0 B0
  have Tc0 := T1.out.get 0 (.slice f l c) rfl
  go_wp2_with fail
  refine (HDF.out (g1) _ E1.out B1.out Q1.out).mono ?_
  rintro e w2 ⟨n2, rfl, hn2, hO2, hg2⟩
  have HN2 := Lib.hid hn2
  clear hn2
  obtain ⟨v2, hv2⟩ : ∃ v, v = w2 := ⟨_, rfl⟩
  rw [← hv2] at hO2 hg2 ⊢
  clear hv2
  have hz2 := hg2.size
  clear Tc0
  have Tc0 := (T1.out.grown hg2 (E1.out.ne_box T1.out (by decide))).get 0 (.slice f l c) rfl
  have Tz0 := (T1.out.grown hg2 (E1.out.ne_box T1.out (by decide))).free 0
  go_wp2
  go_end0
  exact ⟨n2, v2, rfl, HN2.out, hO2, (grown_below B1.out).trans hg2, rfl⟩
set_option maxRecDepth 100000 in
set_option maxHeartbeats 3200000 in
theorem storemay_any (f g : Option Addr) (l c m d : Nat) (E : List Ety) (D : List Inv) (w : World) (hE : RowsAt KE w f E) (hl : l = E.length) (hD : RowsAt KI w g D) (hm : m = D.length) (hls : l ≤ 90000) (hms : m ≤ 90000) (hc : l ≤ c) (hc2 : c ≤ maxLen) :
    Calls Try.prog 45 #[.agg #[.slice f l c, .slice g m d]] w fun q w' => q = .returned (.bool (mayT E D)) ∧ Below w.heap.size w w' := by
  have HM := Lib.hid (fun W (hB : Below w.heap.size w W) => checkC f g l c m d E D W (hE.below hB) hl (hD.below hB) hm hls hms hc hc2)
  clear hE hl hD hm
  obtain ⟨ck, hck⟩ : ∃ ck : Int, ck = if mayT E D = true then 0 else 1 := ⟨_, rfl⟩
  rw [← hck] at HM
  have eck : (ck == 0) = mayT E D := by rw [hck]; cases mayT E D <;> rfl
  clear hck
  generalize mayT E D = qm at *
  have htw : w.heap.size ≤ w.heap.size := Nat.le_refl _
  have B0 := Lib.hid (Below.refl w.heap.size w)
  go_enter Try.func45, Try.ntmps45
  go_upto_region 1 with fail
  have A1 := Lib.hid ((BoxAt.newAt (w) #[.slice f l c, .slice g m d] 71 (w.heap.size) (by first | omega | (simp; done) | (simp; omega))))
  have B1 := Lib.hid ((bel_alloc B0.out (.cells #[.slice f l c, .slice g m d] 71)))
  obtain ⟨g1, hg1⟩ : ∃ g1, g1 = w.heap.size := ⟨_, rfl⟩
  obtain ⟨W1, hW1⟩ : ∃ W1, W1 = (w).alloc (.cells #[.slice f l c, .slice g m d] 71) := ⟨_, rfl⟩
  have hs1 : g1 + 1 ≤ W1.heap.size := by rw [hW1, hg1]; simp
  rw [← hW1] at A1 B1 ⊢
  have hb1 : w.heap.size ≤ g1 := by omega
  rw [← hg1] at A1 ⊢
  clear hg1
  clear hW1 B0
  have Ac0 := A1.out.get 0 (.slice f l c) rfl
  have Ac1 := A1.out.get 1 (.slice g m d) rfl
  go_wp2_with fail
  refine (HM.out _ B1.out).mono ?_
  rintro e w2 ⟨rfl, hb2⟩
  have hz2 := hb2.size
  have A2 := Lib.hid (A1.out.below hb2)
  have B2 := Lib.hid ((bel_trans B1.out hb2))
  skip
  have hs2 : g1 + 1 ≤ w2.heap.size := by omega
  clear Ac0 Ac1
  clear A1 B1 hs1 hb2 hz2
  go_wp2
  all_goals
    go_ret
    exact ⟨rfl, B2.out⟩
/-- What Apply tells. -/
def applyR (E : List Ety) (D D2 : List Inv) : List Ety × List Inv × Int := if (mayT E D && allV D2) = true then (keptE (fun e => anyT e D2) E, D, 0) else ([], [], 1)
set_option maxRecDepth 100000 in
set_option maxHeartbeats 3200000 in
theorem applyC (f g gd : Option Addr) (l c m d md dd : Nat) (E : List Ety) (D D2 : List Inv) (w : World) (hE : RowsAt KE w f E) (hl : l = E.length) (hD : RowsAt KI w g D) (hm : m = D.length) (hls : l ≤ 90000) (hms : m ≤ 90000) (hc : l ≤ c) (hc2 : c ≤ maxLen) (hf : f = none → c = 0) (hg : g = none → d = 0) (hR : RowsAt KI w gd D2) (ho : md = D2.length) (hmd : md ≤ 90000) (hdc : md ≤ dd) (hdc2 : dd ≤ maxLen) :
    Calls Try.prog 22 #[.agg #[.slice f l c, .slice g m d], .slice gd md dd] w (EndF w (applyR E D D2)) := by
  have HM := Lib.hid (fun W (hB : Below w.heap.size w W) => storemay_any f g l c m d E D W (hE.below hB) hl (hD.below hB) hm hls hms hc hc2)
  have HV := Lib.hid (fun W (hB : Below w.heap.size w W) => maybe_any gd md dd D2 W (hR.below hB) ho (by omega) hdc hdc2)
  have HC := Lib.hid (fun W (hB : Below w.heap.size w W) => draft_any f g l c m d E D W (hE.below hB) hl (hD.below hB) hm hls hms hf hg)
  have HF := Lib.hid (fun f' g' c' d' db W (h1 : mayT E D = true) (h2 : allV D2 = true) (hT : BoxAt W db #[.slice f' l c', .slice g' m d'] 73) (hO : OwnR KE W w.heap.size (.slice f' l c') E) (hB : Below w.heap.size w W) => forget_any f' g' gd l c' m d' md dd db w.heap.size E D2 W hT hO hls hB.size (fun k x hx => mayT_may h1 x (List.mem_of_getElem? hx)) h2 ho (by omega) (fun W2 hB2 => hR.below (hB.trans hB2)))
  have HDL := Lib.hid hm
  unfold EndT at HC
  rw [← hl, ← hm] at HC
  unfold EndG at HF
  unfold applyR EndF
  clear hE hl hD hm hR ho hf hg hdc hdc2 hc hc2
  generalize keptE (fun e => anyT e D2) E = KP at *
  generalize mayT E D = qm at *
  generalize allV D2 = qv at *
  have htw : w.heap.size ≤ w.heap.size := Nat.le_refl _
  have B0 := Lib.hid (Below.refl w.heap.size w)
  go_enter Try.func22, Try.ntmps22
  go_upto_region 1 with fail
  have A1 := Lib.hid (((BoxAt.newAt (w) #[.slice f l c, .slice g m d] 43 (w.heap.size) (by first | omega | (simp; done) | (simp; omega))).alloc (.cells #[.slice none 0 0, .slice none 0 0] 43)))
  have R1 := Lib.hid ((BoxAt.newAt ((w).alloc (.cells #[.slice f l c, .slice g m d] 43)) #[.slice none 0 0, .slice none 0 0] 43 (w.heap.size + 1) (by first | omega | (simp; done) | (simp; omega))))
  have B1 := Lib.hid ((bel_alloc (bel_alloc B0.out (.cells #[.slice f l c, .slice g m d] 43)) (.cells #[.slice none 0 0, .slice none 0 0] 43)))
  obtain ⟨g1, hg1⟩ : ∃ g1, g1 = w.heap.size := ⟨_, rfl⟩
  obtain ⟨W1, hW1⟩ : ∃ W1, W1 = ((w).alloc (.cells #[.slice f l c, .slice g m d] 43)).alloc (.cells #[.slice none 0 0, .slice none 0 0] 43) := ⟨_, rfl⟩
  have hs1 : g1 + 1 + 1 ≤ W1.heap.size := by rw [hW1, hg1]; simp
  rw [← hW1] at A1 R1 B1 ⊢
  have hb1 : w.heap.size ≤ g1 := by omega
  rw [← hg1] at A1 R1 ⊢
  clear hg1
  clear hW1 B0
  have Ac0 := A1.out.get 0 (.slice f l c) rfl
  have Ac1 := A1.out.get 1 (.slice g m d) rfl
  go_upto_region 2 with fail
  clear Ac0 Ac1
  have A2 := Lib.hid ((A1.out.alloc (.cells #[.slice f l c, .slice g m d] 71)))
  have R2 := Lib.hid ((R1.out.alloc (.cells #[.slice f l c, .slice g m d] 71)))
  have S2 := Lib.hid ((BoxAt.newAt (W1) #[.slice f l c, .slice g m d] 71 (W1.heap.size) (by first | omega | (simp; done) | (simp; omega))))
  have B2 := Lib.hid ((bel_alloc B1.out (.cells #[.slice f l c, .slice g m d] 71)))
  obtain ⟨g2, hg2⟩ : ∃ g2, g2 = W1.heap.size := ⟨_, rfl⟩
  obtain ⟨W2, hW2⟩ : ∃ W2, W2 = (W1).alloc (.cells #[.slice f l c, .slice g m d] 71) := ⟨_, rfl⟩
  have hs2 : g2 + 1 ≤ W2.heap.size := by rw [hW2, hg2]; simp
  rw [← hW2] at A2 R2 S2 B2 ⊢
  have hb2 : g1 + 1 + 1 ≤ g2 := by omega
  rw [← hg2] at S2 ⊢
  clear hg2
  clear hW2 A1 R1 B1 hs1
  have Sc0 := S2.out.get 0 (.slice f l c) rfl
  have Sc1 := S2.out.get 1 (.slice g m d) rfl
  go_wp2_with fail
  refine (HM.out _ B2.out).mono ?_
  rintro e w3 ⟨rfl, hb3⟩
  have hz3 := hb3.size
  have A3 := Lib.hid (A2.out.below hb3)
  have R3 := Lib.hid (R2.out.below hb3)
  have S3 := Lib.hid (S2.out.below hb3)
  have B3 := Lib.hid ((bel_trans B2.out hb3))
  skip
  have hs3 : g2 + 1 ≤ w3.heap.size := by omega
  clear Sc0 Sc1
  clear A2 R2 S2 B2 hs2 hb3 hz3
  cases hq4 : qm
  · go_wp2_with (refine wpList_storeB rfl 43 _ _ rfl (g1 + 1) #[.slice none 0 0, .slice none 0 0] _ 43 rfl rfl (by kernel_rfl) (by rfl) (by simp [Value.oneCell']) R3.out ?_)
    all_goals
      have RR := (R3.out.put (cs' := #[.slice none 0 0, .slice none 0 0]))
      refine bodyPost_ret (v := .tuple #[.agg #[.slice none 0 0, .slice none 0 0], .int .i64 1]) (by simp [results, Try.results22, go_sem, RR.get 0 (.slice none 0 0) rfl, RR.get 1 (.slice none 0 0) rfl]) rfl ?_
      first | exact ⟨none, 0, 0, none, 0, 0, rfl, rfl, rfl, OwnR.nil _ _, OwnR.nil _ _, (Below.rowB (g := g1 + 1) B3.out (cs := #[.slice none 0 0, .slice none 0 0]) (show w.heap.size ≤ g1 + 1 by omega))⟩ | (simp [hq4]; exact ⟨none, 0, 0, none, 0, 0, ⟨⟨rfl, rfl, rfl⟩, rfl, rfl, rfl⟩, rfl, rfl, OwnR.nil _ _, OwnR.nil _ _, (Below.rowB (g := g1 + 1) B3.out (cs := #[.slice none 0 0, .slice none 0 0]) (show w.heap.size ≤ g1 + 1 by omega))⟩)
  go_wp2_with fail
  refine (HV.out _ B3.out).mono ?_
  rintro e w5 ⟨rfl, hb5⟩
  have hz5 := hb5.size
  have A5 := Lib.hid (A3.out.below hb5)
  have R5 := Lib.hid (R3.out.below hb5)
  have S5 := Lib.hid (S3.out.below hb5)
  have B5 := Lib.hid ((bel_trans B3.out hb5))
  skip
  have hs5 : g2 + 1 ≤ w5.heap.size := by omega
  clear A3 R3 S3 B3 hs3 hb5 hz5
  cases hq6 : qv
  · go_wp2_with (refine wpList_storeB rfl 43 _ _ rfl (g1 + 1) #[.slice none 0 0, .slice none 0 0] _ 43 rfl rfl (by kernel_rfl) (by rfl) (by simp [Value.oneCell']) R5.out ?_)
    all_goals
      have RR := (R5.out.put (cs' := #[.slice none 0 0, .slice none 0 0]))
      refine bodyPost_ret (v := .tuple #[.agg #[.slice none 0 0, .slice none 0 0], .int .i64 1]) (by simp [results, Try.results22, go_sem, RR.get 0 (.slice none 0 0) rfl, RR.get 1 (.slice none 0 0) rfl]) rfl ?_
      first | exact ⟨none, 0, 0, none, 0, 0, rfl, rfl, rfl, OwnR.nil _ _, OwnR.nil _ _, (Below.rowB (g := g1 + 1) B5.out (cs := #[.slice none 0 0, .slice none 0 0]) (show w.heap.size ≤ g1 + 1 by omega))⟩ | (simp [hq4, hq6]; exact ⟨none, 0, 0, none, 0, 0, ⟨⟨rfl, rfl, rfl⟩, rfl, rfl, rfl⟩, rfl, rfl, OwnR.nil _ _, OwnR.nil _ _, (Below.rowB (g := g1 + 1) B5.out (cs := #[.slice none 0 0, .slice none 0 0]) (show w.heap.size ≤ g1 + 1 by omega))⟩)
  have Sc0 := S5.out.get 0 (.slice f l c) rfl
  have Sc1 := S5.out.get 1 (.slice g m d) rfl
  go_wp2_with fail
  refine (HC.out _ B5.out).mono ?_
  rintro e w7 ⟨f7, c7, g7, d7, rfl, hE7, hD7, hb7⟩
  have OE7 := Lib.hid (OwnR.mono hE7 (base' := w.heap.size) (by first | omega | (simp; done) | (simp; omega)))
  have OD7 := Lib.hid (OwnR.mono hD7 (base' := w.heap.size) (by first | omega | (simp; done) | (simp; omega)))
  clear hE7 hD7
  have hz7 := hb7.size
  have A7 := Lib.hid (A5.out.below hb7)
  have R7 := Lib.hid (R5.out.below hb7)
  have S7 := Lib.hid (S5.out.below hb7)
  have B7 := Lib.hid ((bel_trans B5.out hb7))
  skip
  have hs7 : g2 + 1 ≤ w7.heap.size := by omega
  clear Sc0 Sc1
  clear A5 R5 S5 B5 hs5 hb7 hz7
  go_upto_region 5 with fail
  have A8 := Lib.hid ((A7.out.alloc (.cells #[.slice f7 l c7, .slice g7 m d7] 73)))
  have R8 := Lib.hid ((R7.out.alloc (.cells #[.slice f7 l c7, .slice g7 m d7] 73)))
  have S8 := Lib.hid ((S7.out.alloc (.cells #[.slice f7 l c7, .slice g7 m d7] 73)))
  have T8 := Lib.hid ((BoxAt.newAt (w7) #[.slice f7 l c7, .slice g7 m d7] 73 (w7.heap.size) (by first | omega | (simp; done) | (simp; omega))))
  have E8 := Lib.hid ((OE7.out.alloc (.cells #[.slice f7 l c7, .slice g7 m d7] 73)))
  have D8 := Lib.hid ((OD7.out.alloc (.cells #[.slice f7 l c7, .slice g7 m d7] 73)))
  have B8 := Lib.hid ((bel_alloc B7.out (.cells #[.slice f7 l c7, .slice g7 m d7] 73)))
  obtain ⟨g8, hg8⟩ : ∃ g8, g8 = w7.heap.size := ⟨_, rfl⟩
  obtain ⟨W8, hW8⟩ : ∃ W8, W8 = (w7).alloc (.cells #[.slice f7 l c7, .slice g7 m d7] 73) := ⟨_, rfl⟩
  have hs8 : g8 + 1 ≤ W8.heap.size := by rw [hW8, hg8]; simp
  rw [← hW8] at A8 R8 S8 T8 E8 D8 B8 ⊢
  have hb8 : g2 + 1 ≤ g8 := by omega
  rw [← hg8] at T8 ⊢
  clear hg8
  clear hW8 A7 R7 S7 OE7 OD7 B7 hs7
  go_wp2_with fail
  refine (HF.out f7 g7 c7 d7 (g8) _ (by first | trivial | rfl) (by first | trivial | rfl) T8.out E8.out B8.out).mono ?_
  rintro e w9 hp9
  obtain ⟨n9, v9, rfl, hn9, hO9, hg9, rfl⟩ := hp9
  have HN9 := Lib.hid hn9
  clear hn9
  have hz9 := hg9.size
  go_upto_region 6 with fail
  have A10 := Lib.hid (((A8.out.grown hg9 (E8.out.ne_box A8.out (by decide))).other ⟨g8, 0, none⟩ (.slice f7 n9 c7) (show g1 ≠ g8 by omega)))
  have R10 := Lib.hid (((R8.out.grown hg9 (E8.out.ne_box R8.out (by decide))).other ⟨g8, 0, none⟩ (.slice f7 n9 c7) (show g1 + 1 ≠ g8 by omega)))
  have S10 := Lib.hid (((S8.out.grown hg9 (E8.out.ne_box S8.out (by decide))).other ⟨g8, 0, none⟩ (.slice f7 n9 c7) (show g2 ≠ g8 by omega)))
  have T10 := Lib.hid (((T8.out.grown hg9 (E8.out.ne_box T8.out (by decide))).set 0 (.slice f7 n9 c7) #[.slice f7 n9 c7, .slice g7 m d7] rfl))
  have E10 := Lib.hid ((hO9.otherN ⟨g8, 0, none⟩ (.slice f7 n9 c7) (hO9.ne_box (T8.out.grown hg9 (E8.out.ne_box T8.out (by decide))) (by decide))))
  have D10 := Lib.hid (((D8.out.grownO E8.out (by decide) hg9).otherN ⟨g8, 0, none⟩ (.slice f7 n9 c7) ((D8.out.grownO E8.out (by decide) hg9).ne_box (T8.out.grown hg9 (E8.out.ne_box T8.out (by decide))) (by decide))))
  have B10 := Lib.hid ((Below.setCell (B8.out.grown hg9 (by first | omega | (simp; omega)) (fun k hk => Nat.le_trans (show w.heap.size ≤ w.heap.size by omega) (E8.out.blk k hk))) (p := ⟨g8, 0, none⟩) (show w.heap.size ≤ g8 by omega) (.slice f7 n9 c7)))
  obtain ⟨W10, hW10⟩ : ∃ W10, W10 = (v9).setCell ⟨g8, 0, none⟩ (.slice f7 n9 c7) := ⟨_, rfl⟩
  have hs10 : g8 + 1 ≤ W10.heap.size := by rw [hW10]; first | (simp [World.setCell]; omega) | (simp [World.setCell, World.setRow]; omega) | exact hs8
  rw [← hW10] at A10 R10 S10 T10 E10 D10 B10 ⊢
  clear hW10 A8 R8 S8 T8 E8 D8 B8 hs8
  have Tc0 := T10.out.get 0 (.slice f7 n9 c7) rfl
  have Tc1 := T10.out.get 1 (.slice g7 m d7) rfl
  go_wp2_with (refine wpList_storeB rfl 43 _ _ rfl (g1 + 1) #[.slice f7 n9 c7, .slice g7 m d7] _ 43 rfl rfl (by kernel_rfl) (by rfl) (by simp [Value.oneCell']) R10.out ?_)
  all_goals
    have RR := (R10.out.put (cs' := #[.slice f7 n9 c7, .slice g7 m d7]))
    refine bodyPost_ret (v := .tuple #[.agg #[.slice f7 n9 c7, .slice g7 m d7], .int .i64 0]) (by simp [results, Try.results22, go_sem, RR.get 0 (.slice f7 n9 c7) rfl, RR.get 1 (.slice g7 m d7) rfl]) rfl ?_
    exact ⟨f7, n9, c7, g7, m, d7, rfl, HN9.out, HDL.out, (E10.out.rowN (g := g1 + 1) (cs := #[.slice f7 n9 c7, .slice g7 m d7]) (E10.out.ne_box R10.out (by decide))), (D10.out.rowN (g := g1 + 1) (cs := #[.slice f7 n9 c7, .slice g7 m d7]) (D10.out.ne_box R10.out (by decide))), (Below.rowB (g := g1 + 1) B10.out (cs := #[.slice f7 n9 c7, .slice g7 m d7]) (show w.heap.size ≤ g1 + 1 by omega))⟩
end Go.Proofs.Ytjohnpbfdpmajaa
