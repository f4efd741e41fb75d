/- Stage 14: what is remembered is as memory has it: then an access tells what both stages say: plainly. -/
import Derived.Test.YtmelepohdbojlaaGreatZf
set_option linter.all false
namespace Go.Proofs.YtmelepohdbojlaaGreat
open Go.ChangeShapes Go.WideShapes Go.ChangeAt Go.RowKit Go.Deep

abbrev trS (a : AcW) (pg acc : Int) (n : Nat) (lv mid : Int) (R : List Int) : Hit × Flt × List Int := transS (fun m b => midD a.l a.X true a.tf m b) (fun lv f => tblD a.X 1 lv f pg) pg acc n lv mid R
abbrev mq (a : AcW) (m : Int) : Hit × Flt × List Int := midD a.l a.X true a.tf m 0
theorem trS_read (a : AcW) (pg acc : Int) : ∀ (n : Nat) (lv mid : Int) (R : List Int), trS a pg acc n lv mid R = ((trS a pg acc n lv mid []).1, (trS a pg acc n lv mid []).2.1, R ++ (trS a pg acc n lv mid []).2.2)
  | 0, _, _, R => by simp [transS]
  | n + 1, lv, mid, R => by
    have ih := trS_read a pg acc n
    simp only [trS, transS, List.nil_append]
    by_cases h1 : (mq a mid).2.1.k = 0
    · simp only [h1, ne_eq, not_true_eq_false, if_false]
      by_cases h2 : (tblD a.X 1 lv (mq a mid).1.f pg).k = 1
      · simp only [h2, if_true]
        have e1 := ih (lv + 1) (tblD a.X 1 lv (mq a mid).1.f pg).f (R ++ (mq a mid).2.2 ++ [(mq a mid).1.f])
        have e2 := ih (lv + 1) (tblD a.X 1 lv (mq a mid).1.f pg).f ((mq a mid).2.2 ++ [(mq a mid).1.f])
        simp only [trS] at e1 e2
        rw [e1, e2]
        simp only [List.append_assoc]
      · simp only [h2, if_false]
        split
        · simp only [List.append_assoc]
        · split
          · simp only [List.append_assoc]
          · split <;> simp only [List.append_assoc]
    · simp only [h1, ne_eq, not_false_eq_true, if_true]
/-- The intermediate page at which stage 1's table of a level lies. -/
def ArrL (a : AcW) (pg : Int) : Nat → Int → Prop
  | 0, mid => mid = a.of1
  | n + 1, mid => ∃ m0, ArrL a pg n m0 ∧ (mq a m0).2.1.k = 0 ∧ (tblD a.X 1 n (mq a m0).1.f pg).k = 1 ∧ (tblD a.X 1 n (mq a m0).1.f pg).f = mid
def TabL (a : AcW) (pg : Int) (n : Nat) (fr : Int) : Prop := ∃ mid, ArrL a pg n mid ∧ (mq a mid).2.1.k = 0 ∧ (mq a mid).1.f = fr
theorem arr_trans {a : AcW} {pg acc : Int} : ∀ (n : Nat) (mid : Int), n ≤ 3 → ArrL a pg n mid → ∃ R, trS a pg acc 4 0 a.of1 [] = trS a pg acc (4 - n) n mid R
  | 0, mid, _, h => ⟨[], by rw [show mid = a.of1 from h]; rfl⟩
  | n + 1, mid, hn, h => by
    obtain ⟨m0, h0, h1, h2, h3⟩ := h
    obtain ⟨R, hR⟩ := arr_trans n m0 (by omega) h0
    refine ⟨R ++ (mq a m0).2.2 ++ [(mq a m0).1.f], hR.trans ?_⟩
    rw [show 4 - n = (4 - (n + 1)) + 1 by omega]
    simp only [trS]
    rw [transS_table rfl h1 rfl h2, h3]
    push_cast
    rfl
theorem arr_mid {a : AcW} {pg : Int} (o0 : 0 ≤ a.of1) : ∀ (n : Nat) (mid : Int), ArrL a pg n mid → 0 ≤ mid
  | 0, mid, h => by rw [show mid = a.of1 from h]; exact o0
  | n + 1, mid, h => by
    obtain ⟨m0, _, _, _, h3⟩ := h
    rw [← h3]
    exact (tbl_frame _ _ _ _ _).1
theorem arr_same {a : AcW} {p q : Int} (p0 : 0 ≤ p) (q0 : 0 ≤ q) : ∀ (n : Nat) (mid : Int), n ≤ 3 → (n = 0 ∨ abvP n p = abvP n q) → ArrL a p n mid → ArrL a q n mid
  | 0, _, _, _, h => h
  | n + 1, mid, hn, he, h => by
    obtain ⟨m0, h0, h1, h2, h3⟩ := h
    have he : abvP ((n + 1 : Nat) : Int) p = abvP ((n + 1 : Nat) : Int) q := he.resolve_left (by omega)
    have hn : n = 0 ∨ n = 1 ∨ n = 2 := by omega
    have hi : idxI n p = idxI n q ∧ (n = 0 ∨ abvP n p = abvP n q) := by
      unfold abvP at he ⊢
      unfold idxI
      rcases hn with rfl | rfl | rfl
      · rw [show cov ((((0 + 1 : Nat) : Int)) - 1) = 512 from rfl] at he
        rw [show cov ((0 : Nat) : Int) = 512 from rfl]
        exact ⟨by omega, Or.inl rfl⟩
      · rw [show cov ((((1 + 1 : Nat) : Int)) - 1) = 64 from rfl] at he
        rw [show cov ((1 : Nat) : Int) = 64 from rfl, show cov (((1 : Nat) : Int) - 1) = 512 from rfl]
        exact ⟨by omega, Or.inr (by omega)⟩
      · rw [show cov ((((2 + 1 : Nat) : Int)) - 1) = 8 from rfl] at he
        rw [show cov ((2 : Nat) : Int) = 8 from rfl, show cov (((2 : Nat) : Int) - 1) = 64 from rfl]
        exact ⟨by omega, Or.inr (by omega)⟩
    have ht : ∀ fr, tblD a.X 1 n fr p = tblD a.X 1 n fr q := fun fr => by
      unfold tblD
      rw [hi.1]
    exact ⟨m0, arr_same p0 q0 n m0 (by omega) hi.2 h0, h1, by rw [← ht]; exact h2, by rw [← ht]; exact h3⟩
/-- An entry is as memory has it. -/
def SoundE (a : AcW) (e : Ety) : Prop :=
  (e.k = 2 → e.t.a = true ∧ (walkD a.l a.X 2 a.tf e.pg).2.1.k = 0 ∧ (walkD a.l a.X 2 a.tf e.pg).1.f = e.fr ∧ e.t = plainA (walkD a.l a.X 2 a.tf e.pg).1.t) ∧
  (e.k = 3 → ∃ (p : Int) (n : Nat), 0 ≤ p ∧ e.lv = n ∧ 1 ≤ n ∧ n ≤ 3 ∧ abvP n p = e.pg ∧ TabL a p n e.fr) ∧
  (e.k = 1 → ∀ acc, mayA e.t acc = true → (trS a e.pg acc 4 0 a.of1 []).1.f = e.fr ∧ (trS a e.pg acc 4 0 a.of1 []).2.1 = flt0)
def Sound (a : AcW) (E : List Ety) : Prop := ∀ e ∈ E, SoundE a e
theorem Sound.fill {a : AcW} {E : List Ety} {e : Ety} (h : Sound a E) (he : SoundE a e) : Sound a (fill9 E e) := by
  unfold fill9
  split
  · intro x hx
    rcases List.mem_append.1 hx with hx | hx
    · exact h x hx
    · obtain rfl := List.mem_singleton.1 hx
      exact he
  · exact h
theorem flag_ok {t : Atr} {acc st lv pg : Int} : (flagA t acc st lv pg).k = 0 ↔ t.a = true ∧ mayA t acc = true := by
  unfold flagA
  cases t.a <;> cases mayA t acc <;> simp [flt0]
theorem flag_flt {t : Atr} {acc st lv pg : Int} (h1 : t.a = true) (h2 : mayA t acc = true) : flagA t acc st lv pg = flt0 := by
  unfold flagA
  rw [h1, h2]
  rfl
theorem midD_ok {l : Nat} {X : Nat → BitVec 64} {tf mid acc : Int} (h : (midD l X true tf mid acc).2.1.k = 0) :
    (walkD l X 2 tf mid).2.1.k = 0 ∧ (walkD l X 2 tf mid).1.t.a = true ∧ mayA (walkD l X 2 tf mid).1.t acc = true := by
  unfold midD at h
  rw [if_neg (by decide)] at h
  split at h
  · rename_i h1
    split at h
    · rename_i h2
      have := flag_ok.1 h2
      exact ⟨h1, this.1, this.2⟩
    · rename_i h2
      exact absurd h h2
  · rename_i h1
    exact absurd h h1
theorem midD_of {l : Nat} {X : Nat → BitVec 64} {tf mid acc : Int} (h1 : (walkD l X 2 tf mid).2.1.k = 0) (h2 : (walkD l X 2 tf mid).1.t.a = true) (h3 : mayA (walkD l X 2 tf mid).1.t acc = true) :
    midD l X true tf mid acc = (⟨(walkD l X 2 tf mid).1.f, mid, (walkD l X 2 tf mid).1.t, (walkD l X 2 tf mid).1.l⟩, flt0, (walkD l X 2 tf mid).2.2) := by
  unfold midD
  rw [if_neg (by decide), if_pos h1, if_pos (flag_ok.2 ⟨h2, h3⟩)]
theorem mayA_plain (t : Atr) (acc : Int) : mayA (plainA t) acc = mayA t acc := rfl
theorem mayA_both {x y : Atr} {acc : Int} (h : mayA (bothL [x, y]) acc = true) : mayA x acc = true ∧ mayA y acc = true := by
  unfold bothL at h
  simp only [List.foldl, bothS, both1] at h
  unfold mayA at h ⊢
  simp only [Bool.true_and] at h
  cases hx : x.r <;> cases hw : x.w <;> cases hxx : x.x <;> cases hyr : y.r <;> cases hyw : y.w <;> cases hyx : y.x <;> simp_all <;> omega
theorem mid_sound {a : AcW} {s : WkS} (hS : Sound a s.E) {mid acc : Int} (t0 : 0 ≤ a.tf) (m0 : 0 ≤ mid) {r : (Int × Atr × Flt) × WkS} (hr : a.mid s mid acc = r) :
    r.1.2.2 = (midD a.l a.X true a.tf mid acc).2.1 ∧ (r.1.2.2.k = 0 → r.1.1 = (midD a.l a.X true a.tf mid acc).1.f ∧ r.1.2.1 = plainA (midD a.l a.X true a.tf mid acc).1.t) ∧ (r.1.2.2.k ≠ 0 → r.1.1 = 0 ∧ (midD a.l a.X true a.tf mid acc).1.f = 0) ∧ Sound a r.2.E ∧ (a.pu = false → r.2.R = s.R ++ (midD a.l a.X true a.tf mid acc).2.2) ∧ (r.1.2.2.k = 0 → r.1.2.2 = flt0) := by
  unfold AcW.mid midW at hr
  split at hr
  · rename_i hc
    obtain ⟨h1, h2⟩ := hc
    subst hr
    rcases placeE_tell (isMd a.tg mid acc) s.E 0 with ⟨g1, _⟩ | ⟨i, x, g1, g2, g3, _⟩
    · have : mid9 s.E a.tg mid acc = -1 := g1
      omega
    · have hi : mid9 s.E a.tg mid acc = (i : Nat) := g3.trans (by omega)
      have hx : s.E.getD (mid9 s.E a.tg mid acc).toNat ent0 = x := by
        rw [hi, Int.toNat_natCast, List.getD_eq_getElem?_getD, g1]
        rfl
      unfold isMd at g2
      simp only [Bool.and_eq_true, decide_eq_true_eq] at g2
      obtain ⟨k2, _, kp, km⟩ := g2
      obtain ⟨s1, s2, s3, s4⟩ := (hS x (List.mem_of_getElem? g1)).1 k2
      rw [kp] at s2 s3 s4
      have e1 : (walkD a.l a.X 2 a.tf mid).1.t.a = true := by
        rw [s4] at s1
        exact s1
      have e2 : mayA (walkD a.l a.X 2 a.tf mid).1.t acc = true := by
        rw [s4] at km
        exact km
      rw [midD_of s2 e1 e2, hx]
      simp only
      exact ⟨trivial, fun _ => ⟨s3.symm, s4⟩, fun h => absurd rfl h, hS, (fun h => by rw [h1] at h; cases h), fun _ => trivial⟩
  · have hc := (mid_cases a.l a.X true a.tf mid acc t0 m0).2.2
    split at hr
    · rename_i hk
      subst hr
      refine ⟨rfl, fun h => absurd h hk, fun _ => ⟨rfl, ?_⟩, hS, fun _ => rfl, fun h => absurd h hk⟩
      rcases hc with hc | hc
      · exact absurd (congrArg Flt.k hc.1) hk
      · rw [hc.2]
        rfl
    · rename_i hk
      have hk := Decidable.not_not.1 hk
      subst hr
      have hw := midD_ok hk
      have hm := midD_of hw.1 hw.2.1 hw.2.2
      refine ⟨rfl, fun _ => ⟨rfl, rfl⟩, fun h => absurd hk h, ?_, fun _ => rfl, fun _ => ?_⟩
      · simp only
        split
        · refine hS.fill ⟨fun _ => ?_, fun h => absurd h (by simp), fun h => absurd h (by simp)⟩
          simp only
          rw [hm]
          exact ⟨hw.2.1, hw.1, rfl, rfl⟩
        · exact hS
      · simp only
        rw [hm]
theorem fltW_eq (f : Flt) : fltW f = ⟨f.k, f.st, f.lv, true, f.p⟩ := rfl
theorem both_plain2 (t u : Atr) : bothL [t, plainA u] = bothL [t, u] := rfl
/-- From a table that is there. -/
theorem dsc_sound {a : AcW} {pg acc : Int} (t0 : 0 ≤ a.tf) (p0 : 0 ≤ pg) {m n : Nat} (hmn : m + n = 3) {mid : Int} (hA : ArrL a pg n mid) (hk : (mq a mid).2.1.k = 0) {fr : Int} (hf : (mq a mid).1.f = fr)
    (next : ∀ (mid : Int) (s : WkS), ArrL a pg (n + 1) mid → n + 1 ≤ 3 → Sound a s.E → (stageA a pg acc m ((n + 1 : Nat) : Int) (-1) mid s).1.1 = (trS a pg acc m ((n + 1 : Nat) : Int) mid []).1.f ∧ (stageA a pg acc m ((n + 1 : Nat) : Int) (-1) mid s).1.2 = (trS a pg acc m ((n + 1 : Nat) : Int) mid []).2.1 ∧ Sound a (stageA a pg acc m ((n + 1 : Nat) : Int) (-1) mid s).2.E ∧
      (a.pu = false → (stageA a pg acc m ((n + 1 : Nat) : Int) (-1) mid s).2.R = s.R ++ (trS a pg acc m ((n + 1 : Nat) : Int) mid []).2.2))
    (s : WkS) (hS : Sound a s.E) {r : AcR} (hr : dscA a pg acc (fun mid s => stageA a pg acc m ((n : Int) + 1) (-1) mid s) n fr ⟨s.E, s.R ++ [fr]⟩ = r) :
    r.1.1 = (trS a pg acc (m + 1) n mid []).1.f ∧ r.1.2 = (trS a pg acc (m + 1) n mid []).2.1 ∧ Sound a r.2.E ∧ (a.pu = false → r.2.R = s.R ++ ([fr] ++ ((trS a pg acc (m + 1) n mid []).2.2).drop ((mq a mid).2.2.length + 1)) ∧ (mq a mid).2.2 ++ ([fr] ++ ((trS a pg acc (m + 1) n mid []).2.2).drop ((mq a mid).2.2.length + 1)) = (trS a pg acc (m + 1) n mid []).2.2) := by
  have hkd := tbl_kind a.X 1 n fr pg
  have hdf := tbl_frame a.X 1 n fr pg
  have hc := mod_cov pg n p0
  have drp : ∀ (A B : List Int), ((A ++ [fr]) ++ B).drop (A.length + 1) = B := fun A B => by
    have : A.length + 1 = (A ++ [fr]).length := by simp
    rw [this, List.drop_left]
  have drp0 : ∀ (A : List Int), (A ++ [fr]).drop (A.length + 1) = [] := fun A => by
    have := drp A []
    simpa using this
  obtain ⟨d, hd⟩ : ∃ d, tblD a.X 1 n fr pg = d := ⟨_, rfl⟩
  have hd' : (fun (lv f : Int) => tblD a.X 1 lv f pg) n (mq a mid).1.f = d := by
    simp only
    rw [hf, hd]
  unfold dscA at hr
  rw [hd] at hkd hdf hr
  rcases hkd with hkd | ⟨hkd, h3⟩ | hkd
  · rw [if_neg (by omega), if_pos hkd] at hr
    subst hr
    have ht := transS_none (M := fun m b => midD a.l a.X true a.tf m b) (T := fun lv f => tblD a.X 1 lv f pg) (pg := pg) (acc := acc) (n := m) (R := []) rfl hk hd' hkd
    simp only [trS]
    rw [ht]
    simp only [List.nil_append]
    refine ⟨rfl, trivial, hS, fun _ => ?_⟩
    rw [hf, drp0]
    exact ⟨by simp, by simp⟩
  · rw [if_pos hkd] at hr
    have h3' : n + 1 ≤ 3 := by omega
    have hA' : ArrL a pg (n + 1) d.f := ⟨mid, hA, hk, by rw [hf, hd]; exact hkd, by rw [hf, hd]⟩
    have hn := next d.f ⟨s.E, s.R ++ [fr]⟩ hA' h3' hS
    have hcast : ((n + 1 : Nat) : Int) = (n : Int) + 1 := by push_cast; rfl
    rw [hcast] at hn
    simp only at hr
    rw [hr] at hn
    have ht := transS_table (M := fun m b => midD a.l a.X true a.tf m b) (T := fun lv f => tblD a.X 1 lv f pg) (pg := pg) (acc := acc) (n := m) (R := []) rfl hk hd' hkd
    have hR := trS_read a pg acc m ((n : Int) + 1) d.f ([] ++ (mq a mid).2.2 ++ [(mq a mid).1.f])
    have ht : trS a pg acc (m + 1) n mid [] = _ := ht.trans hR
    rw [ht, hf]
    simp only [List.nil_append]
    refine ⟨hn.1, hn.2.1, hn.2.2.1, fun hu => ?_⟩
    rw [hn.2.2.2 hu, drp]
    exact ⟨by simp only [List.append_assoc], by simp only [List.append_assoc]⟩
  · rw [if_neg (by omega), if_neg (by omega)] at hr
    by_cases hg : (flagA d.at' acc 1 n pg).k = 0
    · rw [if_neg (fun h => h hg)] at hr
      have hms := mid_sound (a := a) (s := ⟨s.E, s.R ++ [fr]⟩) hS (mid := d.f + pg % cov n) (acc := acc) t0 (by omega) rfl
      generalize a.mid ⟨s.E, s.R ++ [fr]⟩ (d.f + pg % cov n) acc = q at *
      obtain ⟨h1, h2, h3, h4, h5, h6⟩ := hms
      by_cases hq : q.1.2.2.k = 0
      · rw [if_neg (fun h => h hq)] at hr
        have hb : (midD a.l a.X true a.tf (d.f + pg % cov n) acc).2.1.k = 0 := by rw [← h1]; exact hq
        have ht := transS_hit (M := fun m b => midD a.l a.X true a.tf m b) (T := fun lv f => tblD a.X 1 lv f pg) (pg := pg) (acc := acc) (n := m) (R := []) rfl hk hd' hkd hg rfl hb
        have ht : trS a pg acc (m + 1) n mid [] = _ := ht
        rw [ht]
        simp only [List.nil_append]
        subst hr
        have hfl := h6 hq
        have hfr := (h2 hq).1
        have htt := (h2 hq).2
        refine ⟨hfr, by rw [← h1]; exact hfl.symm, ?_, fun hu => ?_⟩
        · simp only
          split
          · refine h4.fill ⟨fun h => absurd h (by simp), fun h => absurd h (by simp), fun _ acc' hm => ?_⟩
            simp only at hm ⊢
            rw [htt, both_plain2] at hm
            have hmm := mayA_both hm
            have hw := midD_ok hb
            have hmd := midD_of hw.1 hw.2.1 hw.2.2
            have hmw : mayA (walkD a.l a.X 2 a.tf (d.f + pg % cov n)).1.t acc' = true := by
              have := hmm.2
              rw [hmd] at this
              exact this
            have hm2 := midD_of (acc := acc') hw.1 hw.2.1 hmw
            obtain ⟨R, hR⟩ := arr_trans (acc := acc') n mid (by omega) hA
            rw [hR, show 4 - n = m + 1 by omega]
            have ht2 := transS_hit (M := fun m b => midD a.l a.X true a.tf m b) (T := fun lv f => tblD a.X 1 lv f pg) (pg := pg) (acc := acc') (n := m) (R := R) rfl hk hd' hkd (flag_ok.2 ⟨(flag_ok.1 hg).1, hmm.1⟩) rfl (by
              show (midD a.l a.X true a.tf (d.f + pg % cov n) acc').2.1.k = 0
              rw [hm2]
              rfl)
            have ht2 : trS a pg acc' (m + 1) n mid R = _ := ht2
            rw [ht2]
            simp only
            rw [hm2]
            refine ⟨?_, rfl⟩
            rw [hfr, hmd]
          · exact h4
        · rw [hf]
          simp only [List.append_assoc]
          have := drp (mq a mid).2.2 (midD a.l a.X true a.tf (d.f + pg % cov n) acc).2.2
          simp only [List.append_assoc] at this
          rw [this]
          have h5 := h5 hu
          simp only [List.append_assoc] at h5
          refine ⟨?_, rfl⟩
          split <;> exact h5
      · rw [if_pos hq] at hr
        have hb : (midD a.l a.X true a.tf (d.f + pg % cov n) acc).2.1.k ≠ 0 := by rw [← h1]; exact hq
        have ht := transS_far (M := fun m b => midD a.l a.X true a.tf m b) (T := fun lv f => tblD a.X 1 lv f pg) (pg := pg) (acc := acc) (n := m) (R := []) rfl hk hd' hkd hg rfl hb
        have ht : trS a pg acc (m + 1) n mid [] = _ := ht
        rw [ht]
        simp only [List.nil_append]
        subst hr
        refine ⟨rfl, h1, h4, fun hu => ?_⟩
        rw [hf]
        simp only [List.append_assoc]
        have := drp (mq a mid).2.2 (midD a.l a.X true a.tf (d.f + pg % cov n) acc).2.2
        simp only [List.append_assoc] at this
        rw [this]
        have h5 := h5 hu
        simp only [List.append_assoc] at h5
        exact ⟨h5, rfl⟩
    · rw [if_pos hg] at hr
      have ht := transS_flag (M := fun m b => midD a.l a.X true a.tf m b) (T := fun lv f => tblD a.X 1 lv f pg) (pg := pg) (acc := acc) (n := m) (R := []) rfl hk hd' hkd hg
      have ht : trS a pg acc (m + 1) n mid [] = _ := ht
      rw [ht]
      simp only [List.nil_append]
      subst hr
      refine ⟨rfl, rfl, hS, fun _ => ?_⟩
      rw [hf, drp0]
      exact ⟨by simp, by simp⟩
theorem stage_sound {a : AcW} {pg acc : Int} (t0 : 0 ≤ a.tf) (o0 : 0 ≤ a.of1) (p0 : 0 ≤ pg) : ∀ (m n : Nat), m + n = 4 → ∀ (mid : Int) (s : WkS), ArrL a pg n mid → n ≤ 3 → Sound a s.E →
    (stageA a pg acc m n (-1) mid s).1.1 = (trS a pg acc m n mid []).1.f ∧ (stageA a pg acc m n (-1) mid s).1.2 = (trS a pg acc m n mid []).2.1 ∧ Sound a (stageA a pg acc m n (-1) mid s).2.E ∧ (a.pu = false → (stageA a pg acc m n (-1) mid s).2.R = s.R ++ (trS a pg acc m n mid []).2.2)
  | 0, n, hmn, _, _, _, hn, _ => by omega
  | m + 1, n, hmn, mid, s, hA, hn, hS => by
    have m0 := arr_mid o0 n mid hA
    have hms := mid_sound (a := a) (s := s) hS (mid := mid) (acc := 0) t0 m0 rfl
    have ih := stage_sound (acc := acc) t0 o0 p0 m (n + 1)
    have hcast : ((n + 1 : Nat) : Int) = (n : Int) + 1 := by push_cast; rfl
    obtain ⟨z, hz⟩ : ∃ z, stageA a pg acc (m + 1) n (-1) mid s = z := ⟨_, rfl⟩
    rw [hz]
    unfold stageA tabA at hz
    simp only [show ((-1 : Int) < 0) = True from eq_true (by decide), if_true] at hz
    generalize a.mid s mid 0 = q at *
    obtain ⟨h1, h2, h3, h4, h5, h6⟩ := hms
    by_cases hq : q.1.2.2.k = 0
    · have hb : (mq a mid).2.1.k = 0 := by rw [← h1]; exact hq
      have hfr := (h2 hq).1
      simp only [hq, ne_eq, not_true_eq_false, if_false, show (flt0.k = 0) = True from eq_true rfl] at hz
      obtain ⟨E2, hE2, hR2⟩ : ∃ s2 : WkS, (if (decide ((n : Int) > 0) && a.pw) = true then (⟨fill9 q.2.E ⟨3, a.tg, a.tg1, false, pg - pg % cov ((n : Int) - 1), n, q.1.1, 0, atr0⟩, q.2.R⟩ : WkS) else q.2) = s2 ∧ (Sound a s2.E ∧ s2.R = q.2.R) := by
        refine ⟨_, rfl, ?_⟩
        split
        · rename_i hg
          simp only [Bool.and_eq_true, decide_eq_true_eq] at hg
          refine ⟨h4.fill ⟨fun h => absurd h (by simp), fun _ => ?_, fun h => absurd h (by simp)⟩, rfl⟩
          exact ⟨pg, n, p0, rfl, by omega, hn, rfl, mid, hA, hb, hfr.symm⟩
        · exact ⟨h4, rfl⟩
      rw [hE2] at hz
      have hds := dsc_sound (acc := acc) t0 p0 (show m + n = 3 by omega) hA hb hfr.symm (fun mid' s' hA' hn' hS' => ih (by omega) mid' s' hA' hn' hS') E2 hR2.1 hz
      refine ⟨hds.1, hds.2.1, hds.2.2.1, fun hu => ?_⟩
      have h7 := hds.2.2.2 hu
      rw [h7.1, ← h7.2, hR2.2, h5 hu, h7.2]
      have := h7.2
      rw [List.append_assoc]
      rw [this]
    · have hb : (mq a mid).2.1.k ≠ 0 := by rw [← h1]; exact hq
      simp only [hq, ne_eq, not_false_eq_true, if_true, show ((fltW q.1.2.2).k = 0) = False from eq_false hq] at hz
      subst hz
      have ht := transS_walk (M := fun m b => midD a.l a.X true a.tf m b) (T := fun lv f => tblD a.X 1 lv f pg) (pg := pg) (acc := acc) (n := m) (lv := n) (R := []) rfl hb
      have ht : trS a pg acc (m + 1) n mid [] = _ := ht
      rw [ht]
      simp only [List.nil_append]
      refine ⟨rfl, ?_, h4, h5⟩
      rw [← h1]
      rfl
theorem page_sound {a : AcW} {on1 : Bool} {E : List Ety} {pg acc : Int} (t0 : 0 ≤ a.tf) (o0 : 0 ≤ a.of1) (p0 : 0 ≤ pg) (hS : Sound a E) (hG : GoodE a.l E) {z : AcR} (hz : pageA a on1 E pg acc (-1) = z) :
    z.1.1 = (transD a.l a.X on1 a.of1 true a.tf pg acc).1.f ∧ z.1.2 = (transD a.l a.X on1 a.of1 true a.tf pg acc).2.1 ∧ Sound a z.2.E ∧ (a.pu = false → z.2.R = (transD a.l a.X on1 a.of1 true a.tf pg acc).2.2) := by
  unfold pageA at hz
  rw [show dropA E (-1) = E from rfl] at hz
  unfold transD
  cases on1
  · rw [if_pos rfl] at hz ⊢
    have hms := mid_sound (a := a) (s := ⟨E, []⟩) hS (mid := pg) (acc := acc) t0 p0 rfl
    subst hz
    simp only [List.nil_append] at hms
    obtain ⟨h1, h2, h3, h4, h5, h6⟩ := hms
    by_cases hq : (a.mid ⟨E, []⟩ pg acc).1.2.2.k = 0
    · have hb : (midD a.l a.X true a.tf pg acc).2.1.k = 0 := by rw [← h1]; exact hq
      rw [if_pos hb]
      exact ⟨(h2 hq).1, h1, h4, h5⟩
    · have hb : ¬ (midD a.l a.X true a.tf pg acc).2.1.k = 0 := by rw [← h1]; exact hq
      rw [if_neg hb]
      exact ⟨by rw [(h3 hq).2]; exact (h3 hq).1, h1, h4, h5⟩
  · rw [if_neg (by decide)] at hz ⊢
    split at hz
    · rename_i hw
      subst hz
      rcases placeE_tell (isWh a.tg a.tg1 pg acc) E 0 with ⟨g1, _⟩ | ⟨i, x, g1, g2, g3, _⟩
      · have : whole9 E a.tg a.tg1 pg acc = -1 := g1
        omega
      · have hi : whole9 E a.tg a.tg1 pg acc = (i : Nat) := g3.trans (by omega)
        have hx : E.getD (whole9 E a.tg a.tg1 pg acc).toNat ent0 = x := by
          rw [hi, Int.toNat_natCast, List.getD_eq_getElem?_getD, g1]
          rfl
        unfold isWh at g2
        simp only [Bool.and_eq_true, decide_eq_true_eq] at g2
        obtain ⟨k1, _, kp, km⟩ := g2
        have hs := (hS x (List.mem_of_getElem? g1)).2.2 k1 acc km
        rw [kp] at hs
        rw [hx]
        exact ⟨hs.1.symm, hs.2.symm, hS, fun h => by rw [hw.1] at h; cases h⟩
    · split at hz
      · rename_i hw
        rcases walkF_is (p := isWk a.tg a.tg1 pg) E 0 (-1) 0 (by decide) with h1 | ⟨i, x, g1, g2, g3⟩
        · have h2 : walk9 E a.tg a.tg1 pg = -1 := h1
          omega
        · have hi : walk9 E a.tg a.tg1 pg = (i : Nat) := g3.trans (by omega)
          have hx : E.getD (walk9 E a.tg a.tg1 pg).toNat ent0 = x := by
            rw [hi, Int.toNat_natCast, List.getD_eq_getElem?_getD, g1]
            rfl
          have hmem := List.mem_of_getElem? g1
          unfold isWk at g2
          simp only [Bool.and_eq_true, decide_eq_true_eq] at g2
          obtain ⟨k3, _, kp⟩ := g2
          obtain ⟨p, n, q0, hlv, n1, n3, hab, mid, hA, hk, hf⟩ := (hS x hmem).2.1 k3
          have hfr := (hG x hmem).1
          have hA' := arr_same q0 p0 n mid n3 (Or.inr (by rw [hab, kp, hlv])) hA
          rw [hx, hlv, show (3 - (n : Int)).toNat + 1 = (3 - n) + 1 by omega] at hz
          unfold stageA tabA at hz
          simp only [show (x.fr < 0) = False from eq_false (by omega), if_false, show (flt0.k ≠ 0) = False from eq_false (fun h => h rfl)] at hz
          have hds := dsc_sound (acc := acc) t0 p0 (show (3 - n) + n = 3 by omega) hA' hk hf (fun mid' s' hA'' hn' hS' => stage_sound t0 o0 p0 (3 - n) (n + 1) (by omega) mid' s' hA'' hn' hS') ⟨E, []⟩ hS hz
          obtain ⟨R, hR⟩ := arr_trans (acc := acc) n mid n3 hA'
          have hR : transS (fun m b => midD a.l a.X true a.tf m b) (fun lv f => tblD a.X 1 lv f pg) pg acc 4 0 a.of1 [] = _ := hR
          rw [hR, trS_read, show 4 - n = (3 - n) + 1 by omega]
          exact ⟨hds.1, hds.2.1, hds.2.2.1, fun h => by rw [hw.1] at h; cases h⟩
      · have hs := stage_sound (acc := acc) t0 o0 p0 4 0 rfl a.of1 ⟨E, []⟩ rfl (by decide) hS
        rw [show ((0 : Nat) : Int) = 0 from rfl] at hs
        rw [hz] at hs
        simp only [List.nil_append] at hs
        exact hs
end Go.Proofs.YtmelepohdbojlaaGreat
