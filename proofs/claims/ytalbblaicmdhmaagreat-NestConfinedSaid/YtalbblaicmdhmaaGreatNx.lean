/- T2 plainly: what both stages read, stage 2 lets be read. The reference's Trans: contract. Stage 7's reach: contract. -/
import Derived.Test.YtalbblaicmdhmaaGreatNw
import Derived.Maps.AppendAt
import Derived.Test.YtalbblaicmdhmaaGreatNi
import Derived.Test.YtalbblaicmdhmaaGreatTk
import Derived.Deep.CutBlock
import Derived.Deep.DeepCutAuto
set_option linter.all false
namespace Go.Proofs.YtalbblaicmdhmaaGreat
section
open Go.ChangeShapes Go.WideShapes Go.ChangeAt Go.RowKit Go.Deep

/-- A table of stage 2. -/
def Tab (M : Int → Int → Hit × Flt × List Int) (x : Int) : Prop := ∃ m, (0 ≤ m ∧ m ≤ 4095) ∧ x ∈ (M m 0).2.2
/-- A frame that stage 2 lets be read. -/
def Let (M : Int → Int → Hit × Flt × List Int) (x : Int) : Prop := ∃ m, (0 ≤ m ∧ m ≤ 4095) ∧ (M m 0).2.1.k = 0 ∧ x = (M m 0).1.f
/-- What is asked of an answer. -/
def Conf (M : Int → Int → Hit × Flt × List Int) (acc : Int) (q : Hit × Flt × List Int) : Prop :=
  (∀ x ∈ q.2.2, Tab M x ∨ Let M x) ∧ (q.2.1.k = 0 → (0 ≤ q.1.m ∧ q.1.m ≤ 4095) ∧ (M q.1.m acc).2.1.k = 0 ∧ (M q.1.m acc).1.f = q.1.f)
theorem Conf.fault {M : Int → Int → Hit × Flt × List Int} {acc : Int} {h : Hit} {f : Flt} {R : List Int} (hR : ∀ x ∈ R, Tab M x ∨ Let M x) (hk : f.k ≠ 0) : Conf M acc (h, f, R) := ⟨hR, fun h => absurd h hk⟩
theorem transS_conf {M : Int → Int → Hit × Flt × List Int} {T : Int → Int → Dsc} {pg acc : Int} (hT : ∀ m a, (M m a).2.2 = (M m 0).2.2) (hk : ∀ lv f, (T lv f).k = 0 ∨ ((T lv f).k = 1 ∧ lv ≠ 3) ∨ (T lv f).k = 2)
    (hf : ∀ lv f, 0 ≤ (T lv f).f ∧ (T lv f).f ≤ 4095) (ha : ∀ lv f, (T lv f).k = 2 → (T lv f).f + pg % cov lv ≤ 4095) (hm : ∀ m a, (M m a).2.1.k = 0 → (M m a).1.m = m) :
    ∀ (n : Nat) (lv mid : Int) (R : List Int), lv + n = 4 → n ≠ 0 → 0 ≤ mid → mid ≤ 4095 → (∀ x ∈ R, Tab M x ∨ Let M x) → Conf M acc (transS M T pg acc n lv mid R)
  | 0, _, _, _, _, h, _, _, _ => absurd rfl h
  | n + 1, lv, mid, R, hn, _, m0, m1, hR => by
    have h1 : ∀ x ∈ R ++ (M mid 0).2.2, Tab M x ∨ Let M x := fun x hx => by
      rcases List.mem_append.1 hx with h | h
      · exact hR x h
      · exact .inl ⟨mid, ⟨m0, m1⟩, h⟩
    rw [transS]
    split
    · rename_i hk0
      exact Conf.fault h1 hk0
    · rename_i hk0
      have hk0 : (M mid 0).2.1.k = 0 := by
        by_cases h : (M mid 0).2.1.k = 0
        · exact h
        · exact absurd h hk0
      have h2 : ∀ x ∈ R ++ (M mid 0).2.2 ++ [(M mid 0).1.f], Tab M x ∨ Let M x := fun x hx => by
        rcases List.mem_append.1 hx with h | h
        · exact h1 x h
        · exact .inr ⟨mid, ⟨m0, m1⟩, hk0, by simpa using h⟩
      have hd := hk lv (M mid 0).1.f
      have hfd := hf lv (M mid 0).1.f
      have had := ha lv (M mid 0).1.f
      generalize T lv (M mid 0).1.f = d at *
      split
      · rename_i hd1
        have hlv : lv ≠ 3 := by
          rcases hd with hd | ⟨_, hd⟩ | hd
          · omega
          · exact hd
          · omega
        exact transS_conf hT hk hf ha hm n (lv + 1) d.f _ (by omega) (by omega) hfd.1 hfd.2 h2
      · split
        · exact Conf.fault h2 (by simp)
        · split
          · rename_i hg
            exact Conf.fault h2 hg
          · have hd2 : d.k = 2 := by
              rcases hd with hd | ⟨hd, _⟩ | hd
              · exact absurd hd (by assumption)
              · exact absurd hd (by assumption)
              · exact hd
            have hcv := cov_pos lv
            have hp := Int.emod_nonneg pg (show cov lv ≠ 0 by omega)
            have hb0 : 0 ≤ d.f + pg % cov lv := by omega
            have hb1 := had hd2
            have h3 : ∀ x ∈ R ++ (M mid 0).2.2 ++ [(M mid 0).1.f] ++ (M (d.f + pg % cov lv) acc).2.2, Tab M x ∨ Let M x := fun x hx => by
              rcases List.mem_append.1 hx with h | h
              · exact h2 x h
              · exact .inl ⟨_, ⟨hb0, hb1⟩, by rw [← hT _ acc]; exact h⟩
            split
            · rename_i hb
              exact Conf.fault h3 hb
            · rename_i hb
              have hb : (M (d.f + pg % cov lv) acc).2.1.k = 0 := by
                by_cases h : (M (d.f + pg % cov lv) acc).2.1.k = 0
                · exact h
                · exact absurd h hb
              refine ⟨h3, fun _ => ?_⟩
              have hmm := hm _ _ hb
              refine ⟨?_, ?_, ?_⟩
              · show 0 ≤ (M (d.f + pg % cov lv) acc).1.m ∧ (M (d.f + pg % cov lv) acc).1.m ≤ 4095
                rw [hmm]; exact ⟨hb0, hb1⟩
              · show (M (M (d.f + pg % cov lv) acc).1.m acc).2.1.k = 0
                rw [hmm]; exact hb
              · show (M (M (d.f + pg % cov lv) acc).1.m acc).1.f = (M (d.f + pg % cov lv) acc).1.f
                rw [hmm]
theorem midD_tabs (l : Nat) (X : Nat → BitVec 64) (tf m a : Int) : (midD l X true tf m a).2.2 = (midD l X true tf m 0).2.2 := by
  unfold midD
  simp only [Bool.true_eq_false, if_false]
  by_cases hk : (walkD l X 2 tf m).2.1.k = 0
  · simp only [if_pos hk]
    split <;> split <;> rfl
  · simp only [if_neg hk]
theorem midD_mid (l : Nat) (X : Nat → BitVec 64) (tf m a : Int) (h : (midD l X true tf m a).2.1.k = 0) : (midD l X true tf m a).1.m = m := by
  unfold midD at h ⊢
  rw [if_neg (by decide)] at h ⊢
  split
  · rename_i hk
    rw [if_pos hk] at h
    split
    · rfl
    · rename_i hg
      rw [if_neg hg] at h
      exact absurd h hg
  · rename_i hk
    rw [if_neg hk] at h
    exact absurd h hk
/-- T2: each frame that is read is a table of stage 2, or one that it lets be read; where a page is, stage 2 lets be accessed so. -/
theorem transD_conf (l : Nat) (X : Nat → BitVec 64) (on1 : Bool) (of1 tf pg acc : Int) (o0 : 0 ≤ of1) (o1 : of1 ≤ 4095) (p0 : 0 ≤ pg) (p1 : pg ≤ 4095) :
    Conf (midD l X true tf) acc (transD l X on1 of1 true tf pg acc) := by
  unfold transD
  split
  · have h1 : ∀ x ∈ (midD l X true tf pg acc).2.2, Tab (midD l X true tf) x ∨ Let (midD l X true tf) x := fun x hx => .inl ⟨pg, ⟨p0, p1⟩, by rw [← midD_tabs l X tf pg acc]; exact hx⟩
    split
    · rename_i hk
      have hm := midD_mid l X tf pg acc hk
      refine ⟨h1, fun _ => ?_⟩
      refine ⟨?_, ?_, ?_⟩
      · show 0 ≤ (midD l X true tf pg acc).1.m ∧ (midD l X true tf pg acc).1.m ≤ 4095
        rw [hm]; exact ⟨p0, p1⟩
      · show (midD l X true tf (midD l X true tf pg acc).1.m acc).2.1.k = 0
        rw [hm]; exact hk
      · show (midD l X true tf (midD l X true tf pg acc).1.m acc).1.f = (midD l X true tf pg acc).1.f
        rw [hm]
    · rename_i hk
      exact Conf.fault h1 hk
  · exact transS_conf (fun m a => midD_tabs l X tf m a) (fun lv f => tbl_kind X 1 lv f pg) (fun lv f => tbl_frame X 1 lv f pg) (fun lv f h => tbl_in X 1 lv f pg h) (fun m a h => midD_mid l X tf m a h)
      4 0 of1 [] (by decide) (by decide) o0 o1 (by simp)
/-- The reference's In. -/
def InE (L : List Int) (x : Int) (w : World) (e : Ending) (w' : World) : Prop := ∃ j : Int, e = .returned (.int .i64 j) ∧ (x ∈ L → 0 ≤ j) ∧ (x ∉ L → j = -1) ∧ ∃ m, w' = w.drewN m
theorem inI_any (f : Option Addr) (n c : Nat) (L : List Int) (x : Int) (w : World) (hl : L.length ≤ 1000000) (hn : n = L.length) (h1 : IntsAt w f L) :
    Calls Tryz.prog 11 #[.slice f n c, .int .i64 x] w (InE L x w) := by
  subst hn
  have H1 := Lib.hid h1
  clear h1
  obtain ⟨l, hL⟩ : ∃ l, l = L.length := ⟨_, rfl⟩
  have HL := Lib.hid hL
  rw [← hL] at hl ⊢
  clear hL
  go_enter Tryz.func11, Tryz.ntmps11
  go_wp2
  go_loopw [5] (fun i wr => ∃ (k m : Nat), k ≤ l ∧ i = .int .i64 k ∧ wr = w.drewN m ∧ Hid (∀ j, j < k → L.getD j 0 ≠ x)) (fun i _ => l - (intOf i).toNat)
  case atStart => exact ⟨0, 0, Nat.zero_le _, rfl, rfl, fun j hj => absurd hj (by omega)⟩
  case round =>
    obtain ⟨k, m, hk, rfl, rfl, HN⟩ := hrel
    by_cases hlt : k < l
    · have hkl : k < L.length := by rw [← HL.out]; exact hlt
      obtain ⟨b, o, rfl, hc⟩ := H1.out.get k hkl
      have i1 : (0 : Int) ≤ (k : Int) := by omega
      have i2 : (k : Int) < (l : Int) := by omega
      have hmem : L.getD k 0 ∈ L := by
        rw [List.getD_eq_getElem?_getD, List.getElem?_eq_getElem hkl]
        exact List.getElem_mem hkl
      have HME := Lib.hid hmem
      have hnx : ∀ j, j < k + 1 → L.getD k 0 ≠ x → L.getD j 0 ≠ x := fun j hj hx => by
        by_cases h : j = k
        · rw [h]; exact hx
        · exact HN.out j (by omega)
      have HNX := Lib.hid hnx
      clear hkl hmem hnx
      generalize L.getD k 0 = z at *
      by_cases hz : z = x
      · subst hz
        have hzz : (z == z) = true := by simp
        go_wp2_with fail
        go_ret
        exact ⟨k, rfl, fun _ => i1, fun h => absurd HME.out h, _, rfl⟩
      · have hzz : (z == x) = false := by simp [hz]
        have HZ := Lib.hid hz
        clear hz
        go_wp2_with fail
        go_roundw
        case rel => exact ⟨k + 1, m, by omega, by go_num, rfl, fun j hj => HNX.out j hj HZ.out⟩
        case measure => simp [intOf]; omega
    · have hnot : x ∉ L := fun hx => by
        obtain ⟨j, hj, he⟩ := List.getElem_of_mem hx
        refine HN.out j (by have := HL.out; omega) ?_
        rw [List.getD_eq_getElem?_getD, List.getElem?_eq_getElem hj]
        exact he
      have HNO := Lib.hid hnot
      clear hnot
      go_wp2
      go_ret
      exact ⟨-1, rfl, fun h => absurd h HNO.out, fun _ => rfl, _, rfl⟩
/-- Two rows of the call's own, apart. -/
def Apt (a b : Value) : Prop := ∀ k, a.ownBlock = some k → b.ownBlock ≠ some k
theorem Apt.symm {a b : Value} (h : Apt a b) : Apt b a := fun k hk ha => h k ha hk
theorem Apt.nil (b : Value) : Apt (.slice none 0 0) b := fun k hk => by simp [Value.ownBlock] at hk
theorem OwnI.kept {w w' : World} {base : Nat} {v u : Value} {L : List Int} (h : OwnI w base v L) (hg : w.grownBy w' u.ownBlock) (ha : Apt u v) : OwnI w' base v L := by
  refine World.ownsRow.kept h hg ?_
  cases hv : v.ownBlock
  · exact .inl rfl
  · right
    intro hu
    exact ha _ hu.symm (by rw [hv])
theorem Apt.pushed {w : World} {base : Nat} {a a' b : Value} {L : List Int} (h : Apt a b) (hb : OwnI w base b L) (hat : a'.ownBlock = a.ownBlock ∨ a'.ownBlock = some w.heap.size) : Apt a' b := by
  intro k hk hbk
  rcases hat with h1 | h1
  · exact h k (h1.symm.trans hk) hbk
  · have := OwnI.blt hb k hbk
    rw [h1] at hk
    simp only [Option.some.injEq] at hk
    omega
/-- 'append(s, x)' of one number, and where the row lies then. -/
theorem wpList_pushAt {w : World} {ops : Array Oper} {rest : List Oper} {o : Oper} {a : Act} {QQ : Exit → Act → World → Prop} (hgd : o.guard = none) (s x : Operand)
    (ho : o.op = .call { callee := .builtin .append, args := #[s, x], argTypes := #[25, 25] })
    (base n : Nat) (v : Value) (L : List Int) (hs : a.eval s = v) (hown : OwnI w base v L) (hn : n = L.length)
    (b c : Nat) (y : Int) (hx : a.eval x = .slice (some ⟨b, 0, none⟩) 1 c) (hy : w.cell? ⟨b, 0, none⟩ = some (.int .i64 y)) (hk : n ≤ 100000) (hbase : base ≤ w.heap.size)
    (h : ∀ f' c' w', OwnI w' base (.slice f' (n + 1) c') (L ++ [y]) → w.grownBy w' v.ownBlock → ((Value.slice f' (n + 1) c').ownBlock = v.ownBlock ∨ (Value.slice f' (n + 1) c').ownBlock = some w.heap.size) → wpList Tryz.prog ops QQ rest (a.put o.dst (.slice f' (n + 1) c')) w') : wpList Tryz.prog ops QQ (o :: rest) a w := by
  subst hn
  obtain ⟨i0, hi, hz0, hz1, hz2⟩ := info_parts infoI
  refine wpList_append_own_at w hgd s x 25 ho base 3 i0 _ 1 8 Tryz.underlying25 hi hz0 hz1 hz2 rfl (by decide) _ L.length (icells L) hs hown _ 1 c [.int .i64 y] hx rfl ?_ (by simp; rfl)
    (by unfold maxLen; omega) (by omega) hbase ?_
  · intro t v hv
    match t, hv with
    | 0, hv => simp at hv; subst hv; exact hy
    | t + 1, hv => simp at hv
  · intro v' w' hown' hgrow _ hat
    have hO : OwnI w' base v' (L ++ [y]) := by
      unfold OwnI
      rw [icells_append, List.length_append]
      exact hown'
    obtain ⟨f', c', rfl, _⟩ := hO.form
    have e1 : (L ++ [y]).length = L.length + 1 := by simp
    rw [e1] at hO hat ⊢
    exact h f' c' w' hO hgrow hat
end
section
open Go.ChangeShapes Go.WideShapes Go.ChangeAt Go.RowKit Go.Deep

end
section
open Go.ChangeShapes Go.WideShapes Go.ChangeAt Go.RowKit Go.Deep

/-- How reach ends. -/
def ReachEnd (M : Int → Int → Hit × Flt × List Int) (w : World) (e : Ending) (w' : World) : Prop :=
  ∃ (f : Option Addr) (n c : Nat) (f' : Option Addr) (n' c' : Nat) (T L : List Int), e = .returned (.tuple #[.slice f n c, .slice f' n' c']) ∧ n = T.length ∧ n' = L.length ∧ n ≤ 100000 ∧ n' ≤ 100000 ∧
    OwnI w' w.heap.size (.slice f n c) T ∧ OwnI w' w.heap.size (.slice f' n' c') L ∧ Below w.heap.size w w' ∧ (∀ x, Tab M x → x ∈ T) ∧ (∀ x, Let M x → x ∈ L)
theorem all_next {Q : Int → Prop} {mid : Int} (h : ∀ m, 0 ≤ m → m < mid → Q m) (hq : Q mid) : ∀ m, 0 ≤ m → m < mid + 1 → Q m := fun m h0 h1 => by
  by_cases hm : m = mid
  · rw [hm]; exact hq
  · exact h m h0 (by omega)
theorem all_mem {L T : List Int} (h : ∀ j, j < L.length → L.getD j 0 ∈ T) : ∀ x ∈ L, x ∈ T := fun x hx => by
  obtain ⟨j, hj, he⟩ := List.getElem_of_mem hx
  have := h j hj
  rw [List.getD_eq_getElem?_getD, List.getElem?_eq_getElem hj] at this
  rw [← he]
  exact this
theorem under_next {Q : Nat → Prop} {k : Nat} (h : ∀ j, j < k → Q j) (hq : Q k) : ∀ j, j < k + 1 → Q j := fun j hj => by
  by_cases hm : j = k
  · rw [hm]; exact hq
  · exact h j (by omega)
set_option maxRecDepth 100000 in
set_option maxHeartbeats 12800000 in
theorem reach_any (f : Option Addr) (l c : Nat) (X : Nat → BitVec 64) (on2 : Bool) (tf tg : Int) (w : World) (hX : WordsAt w f l X) (hM : okM l = true) (t0 : 0 ≤ tf) (t1 : tf ≤ 4095) :
    Calls Tryz.prog 7 #[.agg #[.slice f l c], .agg #[.bool on2, .int .i64 tf, .int .i64 tg]] w (ReachEnd (midD l X on2 tf) w) := by
  obtain ⟨Mf, hMf⟩ : ∃ Mf : Int → Int → Hit × Flt × List Int, Mf = midD l X on2 tf := ⟨_, rfl⟩
  have HMI := Lib.hid (show ∀ mid W, 0 ≤ mid → mid ≤ 4095 → WordsAt W f l X → Calls Tryz.prog 12 #[.agg #[.slice f l c], .agg #[.bool on2, .int .i64 tf, .int .i64 tg], .int .i64 mid, .int .i64 0] W (WalkEnd W (Mf mid 0)) from by rw [hMf]; exact fun mid W m0 m1 hW => midR_any f l c X on2 tf tg mid 0 W hW hM t0 t1 m0 m1)
  have HMC := Lib.hid (show ∀ mid, 0 ≤ mid → (Mf mid 0).2.2.length ≤ 4 from by rw [hMf]; exact fun mid m0 => (mid_cases l X on2 tf mid 0 t0 m0).1)
  rw [← hMf]
  have HX := Lib.hid hX
  clear hMf hX hM t0 t1
  have M0 := Lib.hid ((BoxAt.new w #[.slice f l c] 24).alloc (.cells #[.bool on2, .int .i64 tf, .int .i64 tg] 29))
  have U0 := Lib.hid (BoxAt.newAt (w.alloc (.cells #[.slice f l c] 24)) #[.bool on2, .int .i64 tf, .int .i64 tg] 29 (w.heap.size + 1) (by simp))
  have B0 := Lib.hid (bel_alloc (bel_alloc (Below.refl w.heap.size w) (.cells #[.slice f l c] 24)) (.cells #[.bool on2, .int .i64 tf, .int .i64 tg] 29))
  go_enter Tryz.func7, Tryz.ntmps7
  go_upto_region 1 with fail
  obtain ⟨W0, hW0⟩ : ∃ W0, W0 = (w.alloc (.cells #[.slice f l c] 24)).alloc (.cells #[.bool on2, .int .i64 tf, .int .i64 tg] 29) := ⟨_, rfl⟩
  rw [← hW0] at M0 U0 B0 ⊢
  clear hW0
  go_wp2
  go_loopw [6, 7, 8] (fun s6 s7 s8 wr => ∃ (mid : Int) (T L : List Int) (ft : Option Addr) (nt ct : Nat) (fl : Option Addr) (nl cl : Nat), 0 ≤ mid ∧ mid ≤ 4096 ∧ s6 = .slice ft nt ct ∧ s7 = .slice fl nl cl ∧ s8 = .int .i64 mid ∧ nt ≤ 4 * mid.toNat ∧ nl ≤ mid.toNat ∧ Hid (nt = T.length) ∧ Hid (nl = L.length) ∧
    Hid (BoxAt wr w.heap.size #[.slice f l c] 24) ∧ Hid (BoxAt wr (w.heap.size + 1) #[.bool on2, .int .i64 tf, .int .i64 tg] 29) ∧ Hid (OwnI wr (w.heap.size + 2) (.slice ft nt ct) T) ∧ Hid (OwnI wr (w.heap.size + 2) (.slice fl nl cl) L) ∧ Hid (Apt (.slice ft nt ct) (.slice fl nl cl)) ∧ Hid (Below w.heap.size w wr) ∧
    Hid (∀ m, 0 ≤ m → m < mid → ∀ x ∈ (Mf m 0).2.2, x ∈ T) ∧ Hid (∀ m, 0 ≤ m → m < mid → (Mf m 0).2.1.k = 0 → (Mf m 0).1.f ∈ L)) (fun _ _ s8 _ => 4096 - (intOf s8).toNat)
  case atStart => exact ⟨0, [], [], none, 0, 0, none, 0, 0, by decide, by decide, rfl, rfl, rfl, by decide, by decide, rfl, rfl, M0.out, U0.out, OwnI.nil _ _, OwnI.nil _ _, Apt.nil _, B0.out, fun m h0 h1 => absurd h1 (by omega), fun m h0 h1 => absurd h1 (by omega)⟩
  case round =>
    obtain ⟨mid, T, L, ft, nt, ct, fl, nl, cl, m0, m1, rfl, rfl, rfl, ht, hl', HT, HL, M1, U1, T1, L1, A1, B1, QT, QL⟩ := hrel
    clear M0 U0 B0
    have hlU := U1.out.lt
    by_cases hlt : mid ≤ 4095
    · have dm : decide (mid ≤ 4095) = true := decide_eq_true hlt
      have Mc0 := M1.out.get 0 (.slice f l c) rfl
      have Uc0 := U1.out.get 0 (.bool on2) rfl
      have Uc1 := U1.out.get 1 (.int .i64 tf) rfl
      have Uc2 := U1.out.get 2 (.int .i64 tg) rfl
      have HW := HX.out.below B1.out
      have hmi := HMI.out mid wr m0 hlt HW
      have hm4 := HMC.out mid m0
      obtain ⟨q, hq⟩ : ∃ q, Mf mid 0 = q := ⟨_, rfl⟩
      rw [hq] at hmi hm4
      have HQ := Lib.hid hq
      have HMA := Lib.hid hmi
      clear hq hmi HW
      obtain ⟨⟨hf, hm', ⟨hr, hw, hx, ha, hn, hs⟩, hl⟩, ⟨fk, fs, fl', fw, fp⟩, R⟩ := q
      unfold WalkEnd hitV fltV at HMA
      simp only at HMA hm4
      have hws := Lib.hid (OwnI.blt T1.out)
      go_wp2_with fail
      refine HMA.out.mono ?_
      rintro e w2 ⟨f1, c1, rfl, hO2, hb2⟩
      clear HMA
      have hs2 := hb2.size
      have AR := Lib.hid (show Apt (.slice ft nt ct) (.slice f1 R.length c1) from fun k hk hr => by have h1 := hws.out k hk; have h2 := hO2.blk k hr; omega)
      have R2 := Lib.hid (hO2.mono (show w.heap.size + 2 ≤ wr.heap.size by omega))
      obtain ⟨n1, hn1⟩ : ∃ n1, n1 = R.length := ⟨_, rfl⟩
      have HN1 := Lib.hid hn1
      rw [← hn1] at AR R2 hm4 ⊢
      clear hO2 hn1 hws
      have M3 := Lib.hid (M1.out.below hb2)
      have U3 := Lib.hid (U1.out.below hb2)
      have T3 := Lib.hid (T1.out.below hb2)
      have L3 := Lib.hid (L1.out.below hb2)
      have B3 := Lib.hid (bel_trans B1.out hb2)
      clear Mc0 Uc0 Uc1 Uc2
      clear M1 U1 T1 L1 B1 hb2
      go_upto_region 6 with fail
      have M4 := Lib.hid (((M3.out.alloc (.cells #[.int .i64 hf, .int .i64 hm', .bool hr, .bool hw, .bool hx, .bool ha, .bool hn, .int .i64 hs, .int .i64 hl] 40)).alloc (.cells #[.int .i64 fk, .int .i64 fs, .int .i64 fl', .bool fw, .int .i64 fp] 42)))
      have U4 := Lib.hid (((U3.out.alloc (.cells #[.int .i64 hf, .int .i64 hm', .bool hr, .bool hw, .bool hx, .bool ha, .bool hn, .int .i64 hs, .int .i64 hl] 40)).alloc (.cells #[.int .i64 fk, .int .i64 fs, .int .i64 fl', .bool fw, .int .i64 fp] 42)))
      have X4 := Lib.hid (((BoxAt.newAt (w2) #[.int .i64 hf, .int .i64 hm', .bool hr, .bool hw, .bool hx, .bool ha, .bool hn, .int .i64 hs, .int .i64 hl] 40 (w2.heap.size) (by first | rfl | (simp; done) | (simp; omega))).alloc (.cells #[.int .i64 fk, .int .i64 fs, .int .i64 fl', .bool fw, .int .i64 fp] 42)))
      have Y4 := Lib.hid ((BoxAt.newAt ((w2).alloc (.cells #[.int .i64 hf, .int .i64 hm', .bool hr, .bool hw, .bool hx, .bool ha, .bool hn, .int .i64 hs, .int .i64 hl] 40)) #[.int .i64 fk, .int .i64 fs, .int .i64 fl', .bool fw, .int .i64 fp] 42 (w2.heap.size + 1) (by first | rfl | (simp; done) | (simp; omega))))
      have T4 := Lib.hid (((T3.out.alloc (.cells #[.int .i64 hf, .int .i64 hm', .bool hr, .bool hw, .bool hx, .bool ha, .bool hn, .int .i64 hs, .int .i64 hl] 40)).alloc (.cells #[.int .i64 fk, .int .i64 fs, .int .i64 fl', .bool fw, .int .i64 fp] 42)))
      have L4 := Lib.hid (((L3.out.alloc (.cells #[.int .i64 hf, .int .i64 hm', .bool hr, .bool hw, .bool hx, .bool ha, .bool hn, .int .i64 hs, .int .i64 hl] 40)).alloc (.cells #[.int .i64 fk, .int .i64 fs, .int .i64 fl', .bool fw, .int .i64 fp] 42)))
      have R4 := Lib.hid (((R2.out.alloc (.cells #[.int .i64 hf, .int .i64 hm', .bool hr, .bool hw, .bool hx, .bool ha, .bool hn, .int .i64 hs, .int .i64 hl] 40)).alloc (.cells #[.int .i64 fk, .int .i64 fs, .int .i64 fl', .bool fw, .int .i64 fp] 42)))
      have B4 := Lib.hid ((bel_alloc (bel_alloc B3.out (.cells #[.int .i64 hf, .int .i64 hm', .bool hr, .bool hw, .bool hx, .bool ha, .bool hn, .int .i64 hs, .int .i64 hl] 40)) (.cells #[.int .i64 fk, .int .i64 fs, .int .i64 fl', .bool fw, .int .i64 fp] 42)))
      clear M3 U3 T3 L3 R2 B3
      obtain ⟨W8, hW8⟩ : ∃ W8, W8 = (w2.alloc (.cells #[.int .i64 hf, .int .i64 hm', .bool hr, .bool hw, .bool hx, .bool ha, .bool hn, .int .i64 hs, .int .i64 hl] 40)).alloc (.cells #[.int .i64 fk, .int .i64 fs, .int .i64 fl', .bool fw, .int .i64 fp] 42) := ⟨_, rfl⟩
      obtain ⟨bX, hbX⟩ : ∃ bX, bX = w2.heap.size := ⟨_, rfl⟩
      have hUX : w.heap.size + 1 < bX := by omega
      rw [← hW8] at M4 U4 X4 Y4 B4 T4 L4 R4 ⊢
      rw [← hbX] at X4 Y4 ⊢
      clear hW8 hbX
      go_wp2
      go_loopw [6, 12] (fun s6 s12 wi => ∃ (k : Nat) (T' : List Int) (ft' : Option Addr) (nt' ct' : Nat), k ≤ n1 ∧ s6 = .slice ft' nt' ct' ∧ s12 = .int .i64 k ∧ nt' ≤ 4 * mid.toNat + k ∧ Hid (nt' = T'.length) ∧ Hid (BoxAt wi (w.heap.size) #[.slice f l c] 24) ∧ Hid (BoxAt wi (w.heap.size + 1) #[.bool on2, .int .i64 tf, .int .i64 tg] 29) ∧ Hid (BoxAt wi (bX) #[.int .i64 hf, .int .i64 hm', .bool hr, .bool hw, .bool hx, .bool ha, .bool hn, .int .i64 hs, .int .i64 hl] 40) ∧ Hid (BoxAt wi (bX + 1) #[.int .i64 fk, .int .i64 fs, .int .i64 fl', .bool fw, .int .i64 fp] 42) ∧ Hid (OwnI wi (w.heap.size + 2) (.slice ft' nt' ct') T') ∧ Hid (OwnI wi (w.heap.size + 2) (.slice fl nl cl) L) ∧ Hid (OwnI wi (w.heap.size + 2) (.slice f1 n1 c1) R) ∧ Hid (Apt (.slice ft' nt' ct') (.slice fl nl cl)) ∧ Hid (Apt (.slice ft' nt' ct') (.slice f1 n1 c1)) ∧ Hid (Below w.heap.size w wi) ∧ Hid (∀ x ∈ T, x ∈ T') ∧ Hid (∀ j, j < k → R.getD j 0 ∈ T')) (fun _ s12 _ => n1 - (intOf s12).toNat)
      case atStart => exact ⟨0, T, ft, nt, ct, Nat.zero_le _, rfl, rfl, by omega, HT.out, M4.out, U4.out, X4.out, Y4.out, T4.out, L4.out, R4.out, A1.out, AR.out, B4.out, fun _ h => h, fun j hj => absurd hj (by omega)⟩
      case round =>
        obtain ⟨k, T', ft', nt', ct', hk, rfl, rfl, hnt, HT', M5, U5, X5, Y5, T5, L5, R5, AL5, AR5, B5, QS, QR⟩ := hrel
        clear M4 U4 X4 Y4 B4 T4 L4 R4 A1 AR
        by_cases hkn : k < n1
        · have i1 : (0 : Int) ≤ (k : Int) := by omega
          have i2 : (k : Int) < (n1 : Int) := by omega
          obtain ⟨b, o, rfl, hc⟩ := R5.out.ints.2.get k (by rw [← HN1.out]; exact hkn)
          have HRZ := Lib.hid (fun (T2 : List Int) (h : ∀ x ∈ T', x ∈ T2) (hz : R.getD k 0 ∈ T2) => under_next (Q := fun j => R.getD j 0 ∈ T2) (fun j hj => h _ (QR.out j hj)) hz)
          generalize R.getD k 0 = z at *
          have HIN := Lib.hid (fun W (h : IntsAt W ft' T') => inI_any ft' nt' ct' T' z W (by have := HT'.out; omega) HT'.out h)
          go_wp2_with fail
          refine (HIN.out _ T5.out.ints.2).mono ?_
          rintro e w6 ⟨jz, rfl, hj1, hj2, m6, rfl⟩
          have HC5 := Lib.hid (fun m => keepc (below_drewN (Below.refl wr.heap.size wr) m) hc)
          clear HIN hc
          by_cases hz : z ∈ T'
          · have hj := hj1 hz
            have dj : decide (jz < 0) = false := decide_eq_false (by omega)
            have HZT := Lib.hid hz
            clear hj1 hj2 hz
            go_wp2
            go_roundw
            case rel => exact ⟨k + 1, T', ft', nt', ct', by omega, rfl, by go_num, by omega, HT'.out, (M5.out.below (below_drewN (Below.refl _ _) m6)), (U5.out.below (below_drewN (Below.refl _ _) m6)), (X5.out.below (below_drewN (Below.refl _ _) m6)), (Y5.out.below (below_drewN (Below.refl _ _) m6)), T5.out.drewN m6, L5.out.drewN m6, R5.out.drewN m6, AL5.out, AR5.out, below_drewN B5.out m6, QS.out, HRZ.out T' (fun _ h => h) HZT.out⟩
            case measure => (simp [intOf] <;> omega)
          · have hj := hj2 hz
            subst hj
            clear hj1 hj2 hz
            have M6 := Lib.hid (M5.out.below (below_drewN (Below.refl _ _) m6))
            have U6 := Lib.hid (U5.out.below (below_drewN (Below.refl _ _) m6))
            have X6 := Lib.hid (X5.out.below (below_drewN (Below.refl _ _) m6))
            have Y6 := Lib.hid (Y5.out.below (below_drewN (Below.refl _ _) m6))
            have T6 := Lib.hid (T5.out.drewN m6)
            have L6 := Lib.hid (L5.out.drewN m6)
            have R6 := Lib.hid (R5.out.drewN m6)
            have B6 := Lib.hid (below_drewN B5.out m6)
            have hc6 := HC5.out m6
            obtain ⟨w6, hw6⟩ : ∃ w6, w6 = wr.drewN m6 := ⟨_, rfl⟩
            rw [← hw6] at M6 U6 X6 Y6 T6 L6 R6 B6 hc6 ⊢
            clear hw6 M5 U5 X5 Y5 T5 L5 R5 B5 HC5
            have HZ7 := Lib.hid (cell_new w6 #[.int .i64 z] 3 0)
            have M7z := Lib.hid (M6.out.alloc (.cells #[.int .i64 z] 3))
            have U7z := Lib.hid (U6.out.alloc (.cells #[.int .i64 z] 3))
            have X7z := Lib.hid (X6.out.alloc (.cells #[.int .i64 z] 3))
            have Y7z := Lib.hid (Y6.out.alloc (.cells #[.int .i64 z] 3))
            have T7z := Lib.hid (T6.out.alloc (.cells #[.int .i64 z] 3))
            have L7z := Lib.hid (L6.out.alloc (.cells #[.int .i64 z] 3))
            have R7z := Lib.hid (R6.out.alloc (.cells #[.int .i64 z] 3))
            have B7z := Lib.hid (bel_alloc B6.out (.cells #[.int .i64 z] 3))
            have HNX7 := Lib.hid (T7z.out.ne_box X7z.out (by decide))
            have HNY7 := Lib.hid (T7z.out.ne_box Y7z.out (by decide))
            have hs7 : w.heap.size + 2 ≤ (w6.alloc (.cells #[.int .i64 z] 3)).heap.size := by have := U7z.out.lt; omega
            go_upto_region 8 with (at_builtin; refine wpList_pushAt rfl _ _ rfl (w.heap.size + 2) (nt') _ (T') rfl T7z.out HT'.out w6.heap.size 1 z rfl HZ7.out (by omega) hs7 ?_; intro f7 c7 W7 hO7 hg7 hat7; have hb7 := (Below.refl (w.heap.size + 2) (w6.alloc (.cells #[.int .i64 z] 3))).grown hg7 hs7 T7z.out.blk; have O7 := Lib.hid hO7; have M7 := Lib.hid (M7z.out.under hb7 (by omega)); have U7 := Lib.hid (U7z.out.under hb7 (by omega)); have X7 := Lib.hid (X7z.out.grown hg7 HNX7.out); have Y7 := Lib.hid (Y7z.out.grown hg7 HNY7.out); have L7 := Lib.hid (L7z.out.kept hg7 AL5.out); have AL7 := Lib.hid (Apt.pushed AL5.out L7z.out hat7); have R7 := Lib.hid (R7z.out.kept hg7 AR5.out); have AR7 := Lib.hid (Apt.pushed AR5.out R7z.out hat7); have B7 := Lib.hid (B7z.out.trans (hb7.mono (by omega))); clear M6 U6 X6 Y6 T6 L6 R6 B6 M7z U7z X7z Y7z L7z AL5 R7z AR5 B7z T7z hc6 HNX7 HNY7 hO7 hg7 hat7 hb7 hs7 HZ7)
            go_wp2
            go_roundw
            case rel => exact ⟨k + 1, T' ++ [z], f7, nt' + 1, c7, by omega, rfl, by go_num, by omega, (by show nt' + 1 = _; have := HT'.out; simp; omega), M7.out, U7.out, X7.out, Y7.out, O7.out, L7.out, R7.out, AL7.out, AR7.out, B7.out, fun x h => List.mem_append_left _ (QS.out x h), HRZ.out _ (fun x h => List.mem_append_left _ h) (by simp)⟩
            case measure => (simp [intOf] <;> omega)
        · obtain rfl : k = n1 := by omega
          have hqr := Lib.hid (all_mem (fun j hj => QR.out j (by have := HN1.out; omega)))
          have HQT := Lib.hid (all_next (Q := fun m => ∀ x ∈ (Mf m 0).2.2, x ∈ T') (fun m h0 h1 x hx => QS.out x (QT.out m h0 h1 x hx)) (by rw [HQ.out]; exact all_mem (fun j hj => QR.out j (by have h5 : k = R.length := HN1.out; have h6 : j < R.length := hj; omega))))
          clear QT QS QR R5 AR5 hkn
          have HQL := Lib.hid (fun (L2 : List Int) (h : ∀ x ∈ L, x ∈ L2) (hz : fk = 0 → hf ∈ L2) => all_next (Q := fun m => (Mf m 0).2.1.k = 0 → (Mf m 0).1.f ∈ L2) (fun m h0 h1 hk => h _ (QL.out m h0 h1 hk)) (by rw [HQ.out]; exact hz))
          clear QL HQ
          have hmt : (mid + 1).toNat = mid.toNat + 1 := by omega
          have hnt2 : nt' ≤ 4 * (mid + 1).toNat := by omega
          have hnl2 : nl ≤ (mid + 1).toNat := by omega
          have hnl3 : nl + 1 ≤ (mid + 1).toNat := by omega
          clear hmt
          by_cases hk0 : fk = 0
          · subst hk0
            have HIN := Lib.hid (fun W (h : IntsAt W fl L) => inI_any fl nl cl L hf W (by have := HL.out; omega) HL.out h)
            have Yc0 := Y5.out.get 0 (.int .i64 0) rfl
            have Xc0 := X5.out.get 0 (.int .i64 hf) rfl
            go_wp2_with fail
            refine (HIN.out _ L5.out.ints.2).mono ?_
            rintro e w6 ⟨jz, rfl, hj1, hj2, m6, rfl⟩
            clear HIN
            clear Yc0 Xc0
            by_cases hz : hf ∈ L
            · have hj := hj1 hz
              have dj : decide (jz < 0) = false := decide_eq_false (by omega)
              have HZT := Lib.hid hz
              clear hj1 hj2 hz
              go_wp2
              go_roundw
              case rel => exact ⟨mid + 1, T', L, ft', nt', ct', fl, nl, cl, by omega, by omega, rfl, rfl, by go_num, hnt2, hnl2, HT'.out, HL.out, (M5.out.below (below_drewN (Below.refl _ _) m6)), (U5.out.below (below_drewN (Below.refl _ _) m6)), T5.out.drewN m6, L5.out.drewN m6, AL5.out, below_drewN B5.out m6, HQT.out, HQL.out L (fun _ h => h) (fun _ => HZT.out)⟩
              case measure => (simp [intOf] <;> omega)
            · have hj := hj2 hz
              subst hj
              clear hj1 hj2 hz
              have M6 := Lib.hid (M5.out.below (below_drewN (Below.refl _ _) m6))
              have U6 := Lib.hid (U5.out.below (below_drewN (Below.refl _ _) m6))
              have X6 := Lib.hid (X5.out.below (below_drewN (Below.refl _ _) m6))
              have Y6 := Lib.hid (Y5.out.below (below_drewN (Below.refl _ _) m6))
              have T6 := Lib.hid (T5.out.drewN m6)
              have L6 := Lib.hid (L5.out.drewN m6)
              have B6 := Lib.hid (below_drewN B5.out m6)
              obtain ⟨w6, hw6⟩ : ∃ w6, w6 = wr.drewN m6 := ⟨_, rfl⟩
              rw [← hw6] at M6 U6 X6 Y6 T6 L6 B6 ⊢
              have AL6 := Lib.hid AL5.out.symm
              clear hw6 M5 U5 X5 Y5 T5 L5 B5 AL5
              have Xc0 := X6.out.get 0 (.int .i64 hf) rfl
              have HZ61 := Lib.hid (cell_new w6 #[.int .i64 hf] 3 0)
              have M61z := Lib.hid (M6.out.alloc (.cells #[.int .i64 hf] 3))
              have U61z := Lib.hid (U6.out.alloc (.cells #[.int .i64 hf] 3))
              have X61z := Lib.hid (X6.out.alloc (.cells #[.int .i64 hf] 3))
              have Y61z := Lib.hid (Y6.out.alloc (.cells #[.int .i64 hf] 3))
              have T61z := Lib.hid (T6.out.alloc (.cells #[.int .i64 hf] 3))
              have L61z := Lib.hid (L6.out.alloc (.cells #[.int .i64 hf] 3))
              have B61z := Lib.hid (bel_alloc B6.out (.cells #[.int .i64 hf] 3))
              have HNX61 := Lib.hid (L61z.out.ne_box X61z.out (by decide))
              have HNY61 := Lib.hid (L61z.out.ne_box Y61z.out (by decide))
              have hs61 : w.heap.size + 2 ≤ (w6.alloc (.cells #[.int .i64 hf] 3)).heap.size := by have := U61z.out.lt; omega
              go_upto_region 4 with (at_builtin; refine wpList_pushAt rfl _ _ rfl (w.heap.size + 2) (nl) _ (L) rfl L61z.out HL.out w6.heap.size 1 hf rfl HZ61.out (by omega) hs61 ?_; intro f61 c61 W61 hO61 hg61 hat61; have hb61 := (Below.refl (w.heap.size + 2) (w6.alloc (.cells #[.int .i64 hf] 3))).grown hg61 hs61 L61z.out.blk; have O61 := Lib.hid hO61; have M61 := Lib.hid (M61z.out.under hb61 (by omega)); have U61 := Lib.hid (U61z.out.under hb61 (by omega)); have X61 := Lib.hid (X61z.out.grown hg61 HNX61.out); have Y61 := Lib.hid (Y61z.out.grown hg61 HNY61.out); have T61 := Lib.hid (T61z.out.kept hg61 AL6.out); have AT61 := Lib.hid (Apt.pushed AL6.out T61z.out hat61); have B61 := Lib.hid (B61z.out.trans (hb61.mono (by omega))); clear M6 U6 X6 Y6 T6 L6 B6 M61z U61z X61z Y61z T61z AL6 B61z L61z Xc0 HNX61 HNY61 hO61 hg61 hat61 hb61 hs61 HZ61)
              go_wp2
              go_roundw
              case rel => exact ⟨mid + 1, T', L ++ [hf], ft', nt', ct', f61, nl + 1, c61, by omega, by omega, rfl, rfl, by go_num, hnt2, hnl3, HT'.out, (by show nl + 1 = _; have := HL.out; simp; omega), M61.out, U61.out, T61.out, O61.out, AT61.out.symm, B61.out, HQT.out, HQL.out _ (fun x h => List.mem_append_left _ h) (fun _ => by simp)⟩
              case measure => (simp [intOf] <;> omega)
          · have dk : decide (fk = 0) = false := decide_eq_false hk0
            have bk : (fk == 0) = false := by rw [beq_int]; exact dk
            have HK0 := Lib.hid hk0
            clear hk0
            have Yc0 := Y5.out.get 0 (.int .i64 fk) rfl
            go_wp2
            go_roundw
            case rel => exact ⟨mid + 1, T', L, ft', nt', ct', fl, nl, cl, by omega, by omega, rfl, rfl, by go_num, hnt2, hnl2, HT'.out, HL.out, M5.out, U5.out, T5.out, L5.out, AL5.out, B5.out, HQT.out, HQL.out L (fun _ h => h) (fun h => absurd h HK0.out)⟩
            case measure => (simp [intOf] <;> omega)
    · have dm : decide (mid ≤ 4095) = false := decide_eq_false hlt
      have hm : mid = 4096 := by omega
      have HT2 := Lib.hid (show ∀ x, Tab Mf x → x ∈ T from fun x ⟨m, ⟨h0, h1⟩, h2⟩ => QT.out m h0 (by omega) x h2)
      have HL2 := Lib.hid (show ∀ x, Let Mf x → x ∈ L from fun x ⟨m, ⟨h0, h1⟩, h2, h3⟩ => by rw [h3]; exact QL.out m h0 (by omega) h2)
      have HNT : nt ≤ 100000 := by omega
      have HNL : nl ≤ 100000 := by omega
      clear QT QL hm
      go_wp2
      go_ret2
      exact ⟨ft, nt, ct, fl, nl, cl, T, L, rfl, HT.out, HL.out, HNT, HNL, T1.out.mono (by omega), L1.out.mono (by omega), B1.out, HT2.out, HL2.out⟩
end
end Go.Proofs.YtalbblaicmdhmaaGreat
