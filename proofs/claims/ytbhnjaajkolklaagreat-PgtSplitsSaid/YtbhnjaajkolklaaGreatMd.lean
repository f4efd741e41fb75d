/- Stage 16: package pgt: a block's parts, split, what a way maps: contracts. -/
import Derived.Test.YtbhnjaajkolklaaGreatMc
set_option linter.all false
namespace Go.Proofs.YtbhnjaajkolklaaGreat
open Go.ChangeShapes Go.WideShapes Go.ChangeAt Go.RowKit Go.Deep

/-- append of one struct, of a row of structs, to a row of the call's own. -/
theorem pushQ_opc {Q : Type} {K : RowK Q} {ft : List Nat} {w0 W : World} {E : Env} {ρ : Operand → Value} {o : Oper} {s x : Operand} (ho : o.op = .call ⟨.builtin .append, #[s, x], #[K.ts, K.ts]⟩) {i k c d b : Nat} {L : List Q} {q : Q} {f : Option Addr} {x0 : Env → Bx} {bx : Nat × (Env → Bx)} (hx : [ρ s, ρ x] = [.slice f L.length c, .slice (some ⟨b, 0, none⟩) 1 d]) (hk : Keep ft w0 W)
    (hp : ∀ p ∈ [(i, x0), bx], (p.2 E).Holds ft w0 W) (hbx : bx.2 E = ⟨b, 0, K.t, (K.V q).toList, .own⟩) (hlen : L.length + 1 ≤ 1000000) (h0 : x0 E = ownFx K.t K.N f L.length c (rcells K L) := by rfl) :
    ∃ r q' w', (execOp ρ o).run Tryz.prog W = .ok (.value r) w' ∧ GPost ft w0 k (fun E => .slice (E.f k) (L ++ [q]).length (E.b k)) [(i, x0), bx] [(i, fun _ => noBx)] [fun E => OwnP K.t K.N (E.f k) (L ++ [q]).length (E.b k) (rcells K (L ++ [q]))] E W (.returned r) w' q' := by
  have e1 : rcells K (L ++ [q]) = rcells K L ++ (K.V q).toList := by rw [rcells_append]; simp [rcells]
  have hbox := hp bx (List.mem_cons_of_mem _ (List.mem_singleton.2 rfl))
  have hrow : (x0 E).Holds ft w0 W := hp (i, x0) (List.mem_cons_self ..)
  have hown := hrow
  rw [h0] at hown
  rw [hbx] at hbox
  simp only [List.cons.injEq, and_true] at hx
  rw [e1, List.length_append]
  have hB : BoxAt W b (K.V q).toList.toArray K.t := ⟨hbox.2.2⟩
  obtain ⟨f', c', w', hr, hown', hg, hat⟩ := run_append_at (P := Tryz.prog) (W := W) K.ts o.type K.t K.under K.info K.zs K.pos K.small hown.2.2.1 (a := ⟨b, 0, none⟩) (m := 1) (d := d) (news := (K.V q).toList) (by rw [Array.length_toList, K.size, Nat.one_mul]) (fun j u hj => by
    rw [add_none, Nat.zero_add]
    exact hB.get j u (by simpa using hj)) (fun u hu => K.one q u hu) hlen (by decide)
  obtain ⟨q', hq⟩ := GPost.grown (k := k) (v := fun E => .slice (E.f k) (L.length + 1) (E.b k)) (rest := [bx]) (e := .returned (.slice f' (L.length + 1) c')) x0 h0 hk hrow hown' hg hat (by rw [set_f, set_c])
  refine ⟨.slice f' (L.length + 1) c', q', w', ?_, hq⟩
  unfold execOp
  simp only [ho, resolve, invoke, builtin, Sem.run_bind, Sem.run_pure, Result.andThen_ok, List.map_toArray, List.map_cons, List.map_nil, hx.1, hx.2, hr]
theorem pushQR_opc {Q : Type} {K : RowK Q} {ft : List Nat} {w0 W : World} {E : Env} {ρ : Operand → Value} {o : Oper} {s x : Operand} (ho : o.op = .call ⟨.builtin .append, #[s, x], #[K.ts, K.ts]⟩) {i k : Nat} {L M : List Q} {c d : Nat} {f g : Option Addr} {rest : BL} {x0 : Env → Bx} (hx : [ρ s, ρ x] = [.slice f L.length c, .slice g M.length d]) (hk : Keep ft w0 W)
    (hp : (x0 E).Holds ft w0 W) (hsrc : OwnP K.t K.N g M.length d (rcells K M) W) (hlen : L.length + M.length ≤ 1000000) (h0 : x0 E = ownFx K.t K.N f L.length c (rcells K L) := by rfl) :
    ∃ r q w', (execOp ρ o).run Tryz.prog W = .ok (.value r) w' ∧ GPost ft w0 k (fun E => .slice (E.f k) (L ++ M).length (E.b k)) ((i, x0) :: rest) [(i, fun _ => noBx)] [fun E => OwnP K.t K.N (E.f k) (L ++ M).length (E.b k) (rcells K (L ++ M))] E W (.returned r) w' q := by
  rw [rcells_append, List.length_append]
  exact pushR_opc K.ts K.t K.under K.info K.zs K.pos K.small ho i k L.length M.length (rcells K L) (rcells K M) x0 h0 hx hk hp hsrc (rcells_one K M) hlen
theorem makeM_opc {ft : List Nat} {w0 W : World} {k n size bytes : Nat} {pre : BL} {E : Env} {ρ : Operand → Value} {o : Oper} {t e : TypeId} {x y : Operand} {z : Value} {cs : List Value} (ho : o.op = .makeSlice t x y) (hx : [ρ x, ρ y] = [.int .i64 (n : Int), .int .i64 (n : Int)]) (hk : Keep ft w0 W)
    (hu : Tryz.prog.underlying t = some (.slice e)) (hi : (Tryz.prog.info? e).map (fun i => (i.zero, i.size, i.bytes)) = some (some z, size, bytes)) (hcs : (madeCells z.cells (n * size)).toList = cs) (hb : (bytes : Int) * (n : Int) ≤ 281474976710656) (hn : n ≤ 100000) :
    ∃ r q w', (execOp ρ o).run Tryz.prog W = .ok (.value r) w' ∧ GPost ft w0 k (fun E => .slice (some ⟨E.b k, 0, none⟩) n n) pre [] [fun E => OwnB e cs (E.f k) (E.b k)] E W (.returned r) w' q := by
  obtain ⟨i, hi0, hz, rfl, rfl⟩ : ∃ i, Tryz.prog.info? e = some i ∧ i.zero = some z ∧ i.size = size ∧ i.bytes = bytes := by
    cases hq : Tryz.prog.info? e with
    | none => rw [hq] at hi; cases hi
    | some i =>
      rw [hq] at hi
      simp only [Option.map_some, Option.some.injEq, Prod.mk.injEq] at hi
      exact ⟨i, rfl, hi.1, hi.2.1, hi.2.2⟩
  have hr := run_make (P := Tryz.prog) W t e i z hu hi0 hz .i64 .i64 (n : Int) (n : Int) (by omega) (Int.le_refl _) hb (by omega)
  simp only [Int.toNat_natCast] at hr
  simp only [List.cons.injEq, and_true] at hx
  obtain ⟨b, hbs⟩ : ∃ b, W.heap.size = b := ⟨_, rfl⟩
  rw [hbs] at hr
  have hB : BoxEnd e cs W (.returned (.pointer (some ⟨b, 0, none⟩))) (W.alloc (.cells (madeCells z.cells (n * i.size)) e)) :=
    ⟨b, rfl, by omega, by
      rw [← hcs, ← hbs]
      exact (heap_alloc_new W _).trans (by rw [Array.toArray_toList]), bel_alloc (Below.refl _ _) _⟩
  obtain ⟨q, hq⟩ := BoxEnd.post (ft := ft) (w0 := w0) (k := k) (pre := pre) (E := E) hB hk
  refine ⟨.slice (some ⟨b, 0, none⟩) n n, q, _, ?_, ⟨?_, hq.ps, hq.keep, hq.size, hq.frame, hq.nw⟩⟩
  · unfold execOp
    simp only [ho, hx.1, hx.2, Sem.run_bind, hr, Result.andThen_ok, Sem.run_pure]
  · have h1 := congrArg Addr.block (Option.some.inj (Value.pointer.inj (Ending.returned.inj hq.ret)))
    exact congrArg (fun z => Ending.returned (.slice (some ⟨z, 0, none⟩) n n)) h1
/-- A block that is handed out as a slice. -/
def BoxS (t : TypeId) (cs : List Value) (n : Nat) (w : World) (e : Ending) (w' : World) : Prop :=
  ∃ b, e = .returned (.slice (some ⟨b, 0, none⟩) n n) ∧ w.heap.size ≤ b ∧ w'.heap[b]? = some (.cells cs.toArray t) ∧ Below w.heap.size w w'
theorem BoxS.post {t : TypeId} {cs : List Value} {n : Nat} {ft : List Nat} {w0 W w' : World} {k : Nat} {pre : BL} {E : Env} {e : Ending} (h : BoxS t cs n W e w') (hk : Keep ft w0 W) :
    ∃ q, GPost ft w0 k (fun E => .slice (some ⟨E.b k, 0, none⟩) n n) pre [] [fun E => OwnB t cs (E.f k) (E.b k)] E W e w' q := by
  obtain ⟨b, he, hs, hb, hw⟩ := h
  obtain ⟨q, hq⟩ := BoxEnd.post (ft := ft) (w0 := w0) (k := k) (pre := pre) (E := E) (e := .returned (.pointer (some ⟨b, 0, none⟩))) ⟨b, rfl, hs, hb, hw⟩ hk
  refine ⟨q, ⟨?_, hq.ps, hq.keep, hq.size, hq.frame, hq.nw⟩⟩
  have h1 := congrArg Addr.block (Option.some.inj (Value.pointer.inj (Ending.returned.inj hq.ret)))
  rw [he]
  exact congrArg (fun z => Ending.returned (.slice (some ⟨z, 0, none⟩) n n)) h1
/-- A block's parts: its eight leaves of the next level. -/
def partD (d : Dsc) (s i : Int) : Dsc := ⟨d.k, d.f + i * s, d.r, d.w, d.x, d.a, d.n, d.s, d.o⟩
def partsC (d : Dsc) (s : Int) : List Value := dscC (partD d s 0) ++ dscC (partD d s 1) ++ dscC (partD d s 2) ++ dscC (partD d s 3) ++ dscC (partD d s 4) ++ dscC (partD d s 5) ++ dscC (partD d s 6) ++ dscC (partD d s 7)
def layK (X : Nat → BitVec 64) (fr lv : Int) (d : Dsc) (s : Int) : Nat → (Nat → BitVec 64)
  | 0 => X
  | k + 1 => upd (layK X fr lv d s k) (fr * 8 + (k : Int)).toNat (wordD 2 lv (partD d s k))
theorem leaf_may {lv : Int} {d : Dsc} (h : mayD 2 lv d = true) (hk : d.k = 2) : lv ≠ 0 ∧ d.o = 0 ∧ 0 ≤ d.f ∧ d.f ≤ 4095 ∧ d.f.tmod (cov lv) = 0 ∧ attrD 2 d = true := by
  unfold mayD at h
  rw [if_neg (by omega), if_neg (by omega), if_pos hk] at h
  unfold leafD at h
  simp only [Bool.and_eq_true, decide_eq_true_eq, numB_iff] at h
  exact ⟨h.1, h.2.1, h.2.2.1.1, h.2.2.1.2, h.2.2.2.1, h.2.2.2.2⟩
theorem part_may {lv : Int} {d : Dsc} {i : Int} (h : mayD 2 lv d = true) (hk : d.k = 2) (l0 : 0 ≤ lv) (l1 : lv ≤ 2) (i0 : 0 ≤ i) (i1 : i ≤ 7) : mayE 2 (lv + 1) (partD d (cov (lv + 1)) i) = true := by
  obtain ⟨h0, ho, f0, f1, hm, ha⟩ := leaf_may h hk
  have hl : lv = 1 ∨ lv = 2 := by omega
  have key : 0 ≤ d.f + i * cov (lv + 1) ∧ d.f + i * cov (lv + 1) ≤ 4095 ∧ (d.f + i * cov (lv + 1)).tmod (cov (lv + 1)) = 0 := by
    rcases hl with rfl | rfl
    · have e1 : cov 1 = 64 := by decide
      have e2 : cov (1 + 1) = 8 := by decide
      rw [e1, Int.tmod_eq_emod_of_nonneg f0] at hm
      rw [e2, Int.tmod_eq_emod_of_nonneg (by omega)]
      omega
    · have e1 : cov 2 = 8 := by decide
      have e2 : cov (2 + 1) = 1 := by decide
      rw [e1, Int.tmod_eq_emod_of_nonneg f0] at hm
      rw [e2, Int.tmod_eq_emod_of_nonneg (by omega)]
      omega
  unfold mayE mayD partD
  simp only
  rw [placeB_iff.2 ⟨Or.inr rfl, by omega, by omega⟩, if_neg (by omega), if_neg (by omega), if_pos hk]
  unfold leafD
  simp only [Bool.true_and, Bool.and_eq_true, decide_eq_true_eq, numB_iff]
  exact ⟨by omega, ho, ⟨key.1, key.2.1⟩, key.2.2, ha⟩
/-- What a way maps. -/
def mapsK (mid f : Int) : Nat → List (Int × Int)
  | 0 => []
  | k + 1 => mapsK mid f k ++ [(mid + k, f + k)]
theorem mapsK_len (mid f : Int) : ∀ k, (mapsK mid f k).length = k
  | 0 => rfl
  | k + 1 => by rw [mapsK, List.length_append, mapsK_len mid f k]; rfl
def mapsD (mid lv : Int) (d : Dsc) : List (Int × Int) := if d.k = 2 then mapsK mid d.f (cov lv).toNat else []
theorem mapsD_len (mid lv : Int) (d : Dsc) : (mapsD mid lv d).length ≤ 512 := by
  have := cov_pos lv
  unfold mapsD
  split
  · rw [mapsK_len]; omega
  · exact Nat.zero_le _
/-- What is to be known of a walk that ended well. -/
structure WayOk (l : Nat) (X : Nat → BitVec 64) (mid dp : Int) (z : WayR) : Prop where
  may : mayW l mid = true
  l0 : 0 ≤ z.lv
  l1 : z.lv ≤ 3
  fr : hasB l z.fr = true
  d : z.d = tblD X 2 z.lv z.fr mid
  len : (z.P.length : Int) = z.lv + 1
  last : ∃ R, z.P = R ++ [z.fr]
  all : ∀ p ∈ z.P, hasB l p = true
  tab : z.d.k = 1 → dp ≤ z.lv
theorem wayS_ok {l : Nat} {X : Nat → BitVec 64} {mid dp : Int} (hm : mayW l mid = true) : ∀ (n : Nat) (lv fr : Int) (R : List Int), 1 ≤ n → lv = 4 - n → 0 ≤ lv → (R.length : Int) = lv → (∀ p ∈ R, hasB l p = true) →
    ((wayS l (fun lv f => tblD X 2 lv f mid) dp n lv fr R).e = 0 → WayOk l X mid dp (wayS l (fun lv f => tblD X 2 lv f mid) dp n lv fr R)) ∧ ((wayS l (fun lv f => tblD X 2 lv f mid) dp n lv fr R).e = 0 ∨ (wayS l (fun lv f => tblD X 2 lv f mid) dp n lv fr R).e = 2) ∧ (wayS l (fun lv f => tblD X 2 lv f mid) dp n lv fr R).P.length ≤ 4
  | 0, _, _, _, h, _, _, _, _ => by omega
  | n + 1, lv, fr, R, _, hl, h0, hR, hA => by
    by_cases hb : hasB l fr = true
    · have hA' : ∀ p ∈ R ++ [fr], hasB l p = true := fun p hp => by
        rcases List.mem_append.1 hp with hp | hp
        · exact hA p hp
        · obtain rfl := List.mem_singleton.1 hp
          exact hb
      have hlen : ((R ++ [fr]).length : Int) = lv + 1 := by simp; omega
      by_cases hk : (tblD X 2 lv fr mid).k = 1 ∧ lv < dp
      · rw [wayS_on (T := fun lv f => tblD X 2 lv f mid) hb hk]
        have h3 : lv ≠ 3 := by rcases tbl_kind X 2 lv fr mid with h | h | h <;> omega
        exact wayS_ok hm n (lv + 1) _ _ (by omega) (by omega) (by omega) hlen hA'
      · rw [wayS_end (T := fun lv f => tblD X 2 lv f mid) hb hk]
        exact ⟨fun _ => ⟨hm, h0, by simp only; omega, hb, rfl, hlen, ⟨R, rfl⟩, hA', fun h => by simp only at h ⊢; omega⟩, Or.inl rfl, by simp only; omega⟩
    · rw [wayS_far (by simpa using hb)]
      exact ⟨fun h => by simp at h, Or.inr rfl, by simp only [List.length_append, List.length_singleton]; omega⟩
theorem wayA_ok {l : Nat} {X : Nat → BitVec 64} {root mid dp : Int} {z : WayR} (hz : wayA l X root mid dp = z) : (z.e = 0 → WayOk l X mid dp z) ∧ (z.e = 0 ∨ z.e = 1 ∨ z.e = 2) ∧ z.P.length ≤ 4 ∧ 0 < z.P.length := by
  subst hz
  unfold wayA
  split
  · rename_i hm
    have h := wayS_ok (X := X) (dp := dp) hm 4 0 root [] (by decide) rfl (Int.le_refl _) rfl (fun p hp => nomatch hp)
    refine ⟨h.1, h.2.1.imp id Or.inr, h.2.2, ?_⟩
    show 0 < (wayS l (fun lv f => tblD X 2 lv f mid) dp 4 0 root []).P.length
    rcases h.2.1 with h1 | h1
    · have := (h.1 h1).len
      have := (h.1 h1).l0
      omega
    · clear h
      have key : ∀ (n : Nat) (lv fr : Int) (R : List Int), 0 < (wayS l (fun lv f => tblD X 2 lv f mid) dp (n + 1) lv fr R).P.length := by
        intro n
        induction n with
        | zero =>
          intro lv fr R
          unfold wayS
          split
          · simp
          · split
            · unfold wayS; simp
            · simp
        | succ n ih =>
          intro lv fr R
          unfold wayS
          split
          · simp
          · split
            · exact ih _ _ _
            · simp
      exact key 3 0 root []
  · exact ⟨fun h => by simp at h, Or.inr (Or.inl rfl), by simp, by simp⟩
theorem takeB_all (l : Nat) : ∀ (F U : List Int), takeB l U F = true ↔ (∀ f ∈ F, hasB l f = true ∧ f ∉ U) ∧ F.Nodup
  | [], U => by simp [takeB]
  | f :: F, U => by
    unfold takeB
    by_cases h : hasB l f = true ∧ f ∉ U
    · rw [if_pos h, takeB_all l F (U ++ [f])]
      simp only [List.mem_cons, List.mem_append, List.not_mem_nil, or_false, List.nodup_cons]
      constructor
      · rintro ⟨h1, h2⟩
        refine ⟨fun g hg => ?_, fun hf => (h1 f hf).2 (Or.inr rfl), h2⟩
        rcases hg with rfl | hg
        · exact h
        · exact ⟨(h1 g hg).1, fun hu => (h1 g hg).2 (Or.inl hu)⟩
      · rintro ⟨h1, h2, h3⟩
        refine ⟨fun g hg => ⟨(h1 g (Or.inr hg)).1, fun hu => ?_⟩, h3⟩
        rcases hu with hu | rfl
        · exact (h1 g (Or.inr hg)).2 hu
        · exact h2 hg
    · rw [if_neg h]
      simp only [Bool.false_eq_true, false_iff]
      rintro ⟨h1, _⟩
      exact h (h1 f (List.mem_cons_self ..))
theorem ints_some {w : World} {f : Option Addr} {L : List Int} (h : IntsAt w f L) (h0 : 0 < L.length) : f ≠ none := fun hf => by
  obtain ⟨b, o, he, _⟩ := h.get 0 h0
  rw [hf] at he
  cases he
theorem fits_part {ft : List Nat} {w0 W : World} {i bq : Nat} {t t2 : TypeId} {tc cs : List Value} {f : Option Addr} (H : Fits ft w0 [⟨i, 0, t, tc, .own⟩, ⟨0, 0, 0, [], .fact (f.map (·.block)) (OwnB t2 cs f bq)⟩] W) : Fits [i] W [⟨i, 0, t, tc, .own⟩, ⟨bq, 0, t2, cs, .row⟩] W := by
  have h0 := H.all 0 _ rfl
  obtain ⟨_, hb, ⟨hf, hh⟩, _⟩ := H.all 1 _ rfl
  have hB : BoxAt W bq cs.toArray t2 := ⟨hh⟩
  refine (Fits.box h0.2.2).row hB.lt (fun j v hv => by rw [Nat.zero_add]; exact hB.get j v (by simpa using hv)) fun k x hk hx => ?_
  rcases k with _ | k
  · obtain rfl := Option.some.inj hk
    exact H.ne 0 1 _ _ rfl rfl (by decide) bq hx hf
  · simp at hk
theorem pext_any (f : Option Addr) (l c : Nat) (fr lv : Int) (d : Dsc) (mid : Int) (sP : Value) (X : Nat → BitVec 64) (F : List Int) (n : Nat) (g : Option Addr) (k b : Nat) (W : World) (hn : n = F.length) (hb : W.heap[b]? = some (.cells (wayL f l c fr lv d mid sP).toArray 64)) (hX : ∀ w, Keep [b] W w → WordsAt w f l X) (hG : ∀ w, Keep [b] W w → IntsAt w g F) (hne : 0 < F.length → ∀ q, g = some q → q.block ∉ [b]) (hM : okM l = true) (hb9 : hasB l fr = true) (l0 : 0 ≤ lv) (l1 : lv + (n : Int) ≤ 3) (m0 : 0 ≤ mid) (m1 : mid ≤ 4095) (hA : ∀ f ∈ F, hasB l f = true) :
    Calls Tryz.prog 46 #[.pointer (some ⟨b, 0, none⟩), .slice g n k] W (LayE b 64 (fun f' c' => wayL f' l c' (lastF fr F) (lv + (n : Int)) d mid sP) l (extX mid (zerL X F) lv fr F) W) := by
  rcases F with _ | ⟨f1, _ | ⟨f2, _ | ⟨f3, _ | ⟨f4, F⟩⟩⟩⟩
  · subst hn
    have h := pext0 f l c fr lv d mid sP X  g k b W hb hX hG hM hb9 l0 (by simp only [List.length_cons, List.length_nil] at l1; omega) m0 m1 
    rw [show lv = lv + ((0 : Nat) : Int) by omega] at h
    exact h
  · subst hn
    obtain ⟨b1, o1, hg, _⟩ := (hG W (Keep.refl _ _)).get 0 (Nat.succ_pos _)
    have h := pext1 f l c fr lv d mid sP X f1 g k b b1 o1 W hb hX hG (hne (Nat.succ_pos _)) hg hM hb9 l0 (by simp only [List.length_cons, List.length_nil] at l1; omega) m0 m1 (hA f1 (List.mem_cons_self ..))
    rw [show lv + 1 = lv + ((1 : Nat) : Int) by omega] at h
    exact h
  · subst hn
    obtain ⟨b1, o1, hg, _⟩ := (hG W (Keep.refl _ _)).get 0 (Nat.succ_pos _)
    have h := pext2 f l c fr lv d mid sP X f1 f2 g k b b1 o1 W hb hX hG (hne (Nat.succ_pos _)) hg hM hb9 l0 (by simp only [List.length_cons, List.length_nil] at l1; omega) m0 m1 (hA f1 (List.mem_cons_self ..)) (hA f2 (List.mem_cons_of_mem _ (List.mem_cons_self ..)))
    rw [show lv + 1 + 1 = lv + ((2 : Nat) : Int) by omega] at h
    exact h
  · subst hn
    obtain ⟨b1, o1, hg, _⟩ := (hG W (Keep.refl _ _)).get 0 (Nat.succ_pos _)
    have h := pext3 f l c fr lv d mid sP X f1 f2 f3 g k b b1 o1 W hb hX hG (hne (Nat.succ_pos _)) hg hM hb9 l0 (by simp only [List.length_cons, List.length_nil] at l1; omega) m0 m1 (hA f1 (List.mem_cons_self ..)) (hA f2 (List.mem_cons_of_mem _ (List.mem_cons_self ..))) (hA f3 (List.mem_cons_of_mem _ (List.mem_cons_of_mem _ (List.mem_cons_self ..))))
    rw [show lv + 1 + 1 + 1 = lv + ((3 : Nat) : Int) by omega] at h
    exact h
  · simp only [List.length_cons] at hn; omega
set_option maxRecDepth 100000 in
theorem pparts_any (f : Option Addr) (l c : Nat) (fr lv : Int) (d : Dsc) (mid : Int) (sP : Value) (b : Nat) (w : World) (hb : Fits [] w [⟨b, 0, 64, wayL f l c fr lv d mid sP, .row⟩] w) (l0 : 0 ≤ lv) (l1 : lv ≤ 2) (f0 : 0 ≤ d.f) (f1 : d.f ≤ 4095) :
    Calls Tryz.prog 95 #[.pointer (some ⟨b, 0, none⟩)] w (BoxS 37 (partsC d (cov (lv + 1))) 8 w) := by
  have hc := cov_pos (lv + 1)
  exact calls_ex mixedT [⟨b, 0, 64, wayL f l c fr lv d mid sP, .row⟩] (.r 1 [(0, .opc (.makeSlice 122 (.const (.int .i64 8)) (.const (.int .i64 8))) (fun _ => [.int .i64 8, .int .i64 8]) (fun E => .slice (some ⟨E.b 1, 0, none⟩) 8 8) [] [] 1 [fun E => OwnB 37 (dscC dz ++ dscC dz ++ dscC dz ++ dscC dz ++ dscC dz ++ dscC dz ++ dscC dz ++ dscC dz) (E.f 1) (E.b 1)])] (.r 2 [(0, .own 1 37 (fun _ => (dscC dz ++ dscC dz ++ dscC dz ++ dscC dz ++ dscC dz ++ dscC dz ++ dscC dz ++ dscC dz)) (fun E => OwnB 37 (dscC dz ++ dscC dz ++ dscC dz ++ dscC dz ++ dscC dz ++ dscC dz ++ dscC dz ++ dscC dz) (E.f 1) (E.b 1)))] (.un (.r 5 [aN 5 0 3 9, aN 7 1 0 9] (.r 6 [a1 4 1 1, a1 10 0 2, (11, .rw (fun _ => .int .i64 (IntKind.i64.wrap (lv + 1))) (fun _ => .int .i64 (lv + 1))), (12, .call 29 (fun _ => [.int .i64 (lv + 1)]) (fun _ => .int .i64 (cov (lv + 1)))), (13, .rw (fun _ => .int .i64 (IntKind.i64.wrap (0 * (cov (lv + 1))))) (fun _ => .int .i64 (0 * (cov (lv + 1))))), (14, .rw (fun _ => .int .i64 (IntKind.i64.wrap (d.f + (0 * (cov (lv + 1)))))) (fun _ => .int .i64 (d.f + (0 * (cov (lv + 1)))))), a1 17 1 1] (.un (.r 5 [aN 5 0 3 9, aN 7 1 9 9] (.r 6 [a1 4 1 10, a1 10 0 2, (11, .rw (fun _ => .int .i64 (IntKind.i64.wrap (lv + 1))) (fun _ => .int .i64 (lv + 1))), (12, .call 29 (fun _ => [.int .i64 (lv + 1)]) (fun _ => .int .i64 (cov (lv + 1)))), (13, .rw (fun _ => .int .i64 (IntKind.i64.wrap (1 * (cov (lv + 1))))) (fun _ => .int .i64 (1 * (cov (lv + 1))))), (14, .rw (fun _ => .int .i64 (IntKind.i64.wrap (d.f + (1 * (cov (lv + 1)))))) (fun _ => .int .i64 (d.f + (1 * (cov (lv + 1)))))), a1 17 1 10] (.un (.r 5 [aN 5 0 3 9, aN 7 1 18 9] (.r 6 [a1 4 1 19, a1 10 0 2, (11, .rw (fun _ => .int .i64 (IntKind.i64.wrap (lv + 1))) (fun _ => .int .i64 (lv + 1))), (12, .call 29 (fun _ => [.int .i64 (lv + 1)]) (fun _ => .int .i64 (cov (lv + 1)))), (13, .rw (fun _ => .int .i64 (IntKind.i64.wrap (2 * (cov (lv + 1))))) (fun _ => .int .i64 (2 * (cov (lv + 1))))), (14, .rw (fun _ => .int .i64 (IntKind.i64.wrap (d.f + (2 * (cov (lv + 1)))))) (fun _ => .int .i64 (d.f + (2 * (cov (lv + 1)))))), a1 17 1 19] (.un (.r 5 [aN 5 0 3 9, aN 7 1 27 9] (.r 6 [a1 4 1 28, a1 10 0 2, (11, .rw (fun _ => .int .i64 (IntKind.i64.wrap (lv + 1))) (fun _ => .int .i64 (lv + 1))), (12, .call 29 (fun _ => [.int .i64 (lv + 1)]) (fun _ => .int .i64 (cov (lv + 1)))), (13, .rw (fun _ => .int .i64 (IntKind.i64.wrap (3 * (cov (lv + 1))))) (fun _ => .int .i64 (3 * (cov (lv + 1))))), (14, .rw (fun _ => .int .i64 (IntKind.i64.wrap (d.f + (3 * (cov (lv + 1)))))) (fun _ => .int .i64 (d.f + (3 * (cov (lv + 1)))))), a1 17 1 28] (.un (.r 5 [aN 5 0 3 9, aN 7 1 36 9] (.r 6 [a1 4 1 37, a1 10 0 2, (11, .rw (fun _ => .int .i64 (IntKind.i64.wrap (lv + 1))) (fun _ => .int .i64 (lv + 1))), (12, .call 29 (fun _ => [.int .i64 (lv + 1)]) (fun _ => .int .i64 (cov (lv + 1)))), (13, .rw (fun _ => .int .i64 (IntKind.i64.wrap (4 * (cov (lv + 1))))) (fun _ => .int .i64 (4 * (cov (lv + 1))))), (14, .rw (fun _ => .int .i64 (IntKind.i64.wrap (d.f + (4 * (cov (lv + 1)))))) (fun _ => .int .i64 (d.f + (4 * (cov (lv + 1)))))), a1 17 1 37] (.un (.r 5 [aN 5 0 3 9, aN 7 1 45 9] (.r 6 [a1 4 1 46, a1 10 0 2, (11, .rw (fun _ => .int .i64 (IntKind.i64.wrap (lv + 1))) (fun _ => .int .i64 (lv + 1))), (12, .call 29 (fun _ => [.int .i64 (lv + 1)]) (fun _ => .int .i64 (cov (lv + 1)))), (13, .rw (fun _ => .int .i64 (IntKind.i64.wrap (5 * (cov (lv + 1))))) (fun _ => .int .i64 (5 * (cov (lv + 1))))), (14, .rw (fun _ => .int .i64 (IntKind.i64.wrap (d.f + (5 * (cov (lv + 1)))))) (fun _ => .int .i64 (d.f + (5 * (cov (lv + 1)))))), a1 17 1 46] (.un (.r 5 [aN 5 0 3 9, aN 7 1 54 9] (.r 6 [a1 4 1 55, a1 10 0 2, (11, .rw (fun _ => .int .i64 (IntKind.i64.wrap (lv + 1))) (fun _ => .int .i64 (lv + 1))), (12, .call 29 (fun _ => [.int .i64 (lv + 1)]) (fun _ => .int .i64 (cov (lv + 1)))), (13, .rw (fun _ => .int .i64 (IntKind.i64.wrap (6 * (cov (lv + 1))))) (fun _ => .int .i64 (6 * (cov (lv + 1))))), (14, .rw (fun _ => .int .i64 (IntKind.i64.wrap (d.f + (6 * (cov (lv + 1)))))) (fun _ => .int .i64 (d.f + (6 * (cov (lv + 1)))))), a1 17 1 55] (.un (.r 5 [aN 5 0 3 9, aN 7 1 63 9] (.r 6 [a1 4 1 64, a1 10 0 2, (11, .rw (fun _ => .int .i64 (IntKind.i64.wrap (lv + 1))) (fun _ => .int .i64 (lv + 1))), (12, .call 29 (fun _ => [.int .i64 (lv + 1)]) (fun _ => .int .i64 (cov (lv + 1)))), (13, .rw (fun _ => .int .i64 (IntKind.i64.wrap (7 * (cov (lv + 1))))) (fun _ => .int .i64 (7 * (cov (lv + 1))))), (14, .rw (fun _ => .int .i64 (IntKind.i64.wrap (d.f + (7 * (cov (lv + 1)))))) (fun _ => .int .i64 (d.f + (7 * (cov (lv + 1)))))), a1 17 1 64] (.un (.fin [] (fun E => .slice (some ⟨E.b 1, 0, none⟩) 8 8) [(1, (fun E => ⟨E.b 1, 0, 37, [.int .i64 d.k, .int .i64 (d.f + (0 * (cov (lv + 1)))), .bool d.r, .bool d.w, .bool d.x, .bool d.a, .bool d.n, .int .i64 d.s, .int .i64 d.o, .int .i64 d.k, .int .i64 (d.f + (1 * (cov (lv + 1)))), .bool d.r, .bool d.w, .bool d.x, .bool d.a, .bool d.n, .int .i64 d.s, .int .i64 d.o, .int .i64 d.k, .int .i64 (d.f + (2 * (cov (lv + 1)))), .bool d.r, .bool d.w, .bool d.x, .bool d.a, .bool d.n, .int .i64 d.s, .int .i64 d.o, .int .i64 d.k, .int .i64 (d.f + (3 * (cov (lv + 1)))), .bool d.r, .bool d.w, .bool d.x, .bool d.a, .bool d.n, .int .i64 d.s, .int .i64 d.o, .int .i64 d.k, .int .i64 (d.f + (4 * (cov (lv + 1)))), .bool d.r, .bool d.w, .bool d.x, .bool d.a, .bool d.n, .int .i64 d.s, .int .i64 d.o, .int .i64 d.k, .int .i64 (d.f + (5 * (cov (lv + 1)))), .bool d.r, .bool d.w, .bool d.x, .bool d.a, .bool d.n, .int .i64 d.s, .int .i64 d.o, .int .i64 d.k, .int .i64 (d.f + (6 * (cov (lv + 1)))), .bool d.r, .bool d.w, .bool d.x, .bool d.a, .bool d.n, .int .i64 d.s, .int .i64 d.o, .int .i64 d.k, .int .i64 (d.f + (7 * (cov (lv + 1)))), .bool d.r, .bool d.w, .bool d.x, .bool d.a, .bool d.n, .int .i64 d.s, .int .i64 d.o], .own⟩))])))))))))))))))))))))))))))) Tryz.func95 rfl hb (⟨fun E W ρ o ho hx hk _ => makeM_opc (n := 8) (z := dscV dz) (size := 9) (bytes := 40) ho hx hk Tryz.underlying122 (by kernel_rfl) (by kernel_rfl) (by decide) (by decide), fun _ _ h => h, fun _ => by rw [IntWalk.i64_in _ (by omega)], fun _ W _ => pcov_any (lv + 1) W (by omega) (by omega), fun _ => by rw [IntWalk.i64_in _ (by omega)], fun _ => by rw [IntWalk.i64_in _ (by omega)], fun _ => by rw [IntWalk.i64_in _ (by omega)], fun _ W _ => pcov_any (lv + 1) W (by omega) (by omega), fun _ => by rw [IntWalk.i64_in _ (by omega)], fun _ => by rw [IntWalk.i64_in _ (by omega)], fun _ => by rw [IntWalk.i64_in _ (by omega)], fun _ W _ => pcov_any (lv + 1) W (by omega) (by omega), fun _ => by rw [IntWalk.i64_in _ (by omega)], fun _ => by rw [IntWalk.i64_in _ (by omega)], fun _ => by rw [IntWalk.i64_in _ (by omega)], fun _ W _ => pcov_any (lv + 1) W (by omega) (by omega), fun _ => by rw [IntWalk.i64_in _ (by omega)], fun _ => by rw [IntWalk.i64_in _ (by omega)], fun _ => by rw [IntWalk.i64_in _ (by omega)], fun _ W _ => pcov_any (lv + 1) W (by omega) (by omega), fun _ => by rw [IntWalk.i64_in _ (by omega)], fun _ => by rw [IntWalk.i64_in _ (by omega)], fun _ => by rw [IntWalk.i64_in _ (by omega)], fun _ W _ => pcov_any (lv + 1) W (by omega) (by omega), fun _ => by rw [IntWalk.i64_in _ (by omega)], fun _ => by rw [IntWalk.i64_in _ (by omega)], fun _ => by rw [IntWalk.i64_in _ (by omega)], fun _ W _ => pcov_any (lv + 1) W (by omega) (by omega), fun _ => by rw [IntWalk.i64_in _ (by omega)], fun _ => by rw [IntWalk.i64_in _ (by omega)], fun _ => by rw [IntWalk.i64_in _ (by omega)], fun _ W _ => pcov_any (lv + 1) W (by omega) (by omega), fun _ => by rw [IntWalk.i64_in _ (by omega)], fun _ => by rw [IntWalk.i64_in _ (by omega)], fun E W hk hp => ⟨E.b 1, rfl, ((hp.1 _ (List.mem_singleton.2 rfl)).2.1).resolve_left (by simp), (hp.1 _ (List.mem_singleton.2 rfl)).2.2, hk.below⟩⟩) rfl (fun _ => by kernel_rfl)
set_option maxRecDepth 100000 in
theorem playT_any (f : Option Addr) (l c : Nat) (fr lv : Int) (X : Nat → BitVec 64) (d : Dsc) (s : Int) (b bd : Nat) (W : World) (hF : Fits [b] W [⟨b, 0, 62, [.slice f l c, .int .i64 fr, .int .i64 lv], .own⟩, ⟨bd, 0, 37, partsC d s, .row⟩] W) (hX : ∀ w, Keep [b] W w → WordsAt w f l X) (hM : okM l = true) (hb9 : hasB l fr = true) (l0 : 0 ≤ lv) (l1 : lv ≤ 3) (hd : ∀ i : Int, 0 ≤ i → i ≤ 7 → mayE 2 lv (partD d s i) = true) :
    Calls Tryz.prog 72 #[.pointer (some ⟨b, 0, none⟩), .int .i64 0, .slice (some ⟨bd, 0, none⟩) 8 8] W (LayE b 62 (fun f' c' => [.slice f' l c', .int .i64 fr, .int .i64 lv]) l (layK X fr lv d s 8) W) := by
  have hfr := has_fr hM hb9
  exact calls_ex mixedT [⟨b, 0, 62, [.slice f l c, .int .i64 fr, .int .i64 lv], .own⟩, ⟨bd, 0, 37, (partsC d s), .row⟩] (.r 0 [a1 3 0 2, (5, .call 92 (fun _ => [.int .i64 lv, .int .i64 0]) (fun _ => .tuple #[.int .i64 0, .int .i64 0]))] (.un (.r 3 [aN 2 1 0 9, aN 5 2 0 9] (.r 4 [a1 3 0 2, aN 4 2 0 9, (5, .call 93 (fun _ => [.int .i64 2, .int .i64 lv, dscV (partD d s 0)]) (fun _ => .tuple #[.int .u64 (u (wordD 2 lv (partD d s 0))), .int .i64 0]))] (.r 5 [a1 4 0 0, a1 8 0 1, (9, .rw (fun _ => .int .i64 (IntKind.i64.wrap (fr * 64))) (fun _ => .int .i64 (fr * 64))), (14, .rw (fun _ => .int .i64 (IntKind.i64.wrap ((fr * 64) + 0))) (fun _ => .int .i64 ((fr * 64) + 0))), (16, .callg 94 (fun _ => [.agg #[.slice f l c], .int .i64 ((fr * 64) + 0), .int .i64 8, .int .u64 (u (wordD 2 lv (partD d s 0)))]) (fun E => .tuple #[.agg #[.slice (E.f 3) l (E.b 3)], .int .i64 0]) [] [] 3 [fun E => OwnP 75 1 (E.f 3) l (E.b 3) (wcells (layK X fr lv d s 1) l)]), a1 22 0 0] (.un (.r 3 [aN 2 1 9 9, aN 5 4 0 9] (.r 4 [a1 3 0 2, aN 4 4 0 9, (5, .call 93 (fun _ => [.int .i64 2, .int .i64 lv, dscV (partD d s 1)]) (fun _ => .tuple #[.int .u64 (u (wordD 2 lv (partD d s 1))), .int .i64 0]))] (.r 5 [a1 4 0 0, a1 8 0 1, (9, .rw (fun _ => .int .i64 (IntKind.i64.wrap (fr * 64))) (fun _ => .int .i64 (fr * 64))), (14, .rw (fun _ => .int .i64 (IntKind.i64.wrap ((fr * 64) + 8))) (fun _ => .int .i64 ((fr * 64) + 8))), (16, .callg 94 (fun E => [.agg #[.slice (E.f 3) l (E.b 3)], .int .i64 ((fr * 64) + 8), .int .i64 8, .int .u64 (u (wordD 2 lv (partD d s 1)))]) (fun E => .tuple #[.agg #[.slice (E.f 5) l (E.b 5)], .int .i64 0]) [(3, (fun E => ownFx 75 1 (E.f 3) l (E.b 3) (wcells (layK X fr lv d s 1) l)))] [] 5 [fun E => OwnP 75 1 (E.f 5) l (E.b 5) (wcells (layK X fr lv d s 2) l)]), a1 22 0 0] (.un (.r 3 [aN 2 1 18 9, aN 5 6 0 9] (.r 4 [a1 3 0 2, aN 4 6 0 9, (5, .call 93 (fun _ => [.int .i64 2, .int .i64 lv, dscV (partD d s 2)]) (fun _ => .tuple #[.int .u64 (u (wordD 2 lv (partD d s 2))), .int .i64 0]))] (.r 5 [a1 4 0 0, a1 8 0 1, (9, .rw (fun _ => .int .i64 (IntKind.i64.wrap (fr * 64))) (fun _ => .int .i64 (fr * 64))), (14, .rw (fun _ => .int .i64 (IntKind.i64.wrap ((fr * 64) + 16))) (fun _ => .int .i64 ((fr * 64) + 16))), (16, .callg 94 (fun E => [.agg #[.slice (E.f 5) l (E.b 5)], .int .i64 ((fr * 64) + 16), .int .i64 8, .int .u64 (u (wordD 2 lv (partD d s 2)))]) (fun E => .tuple #[.agg #[.slice (E.f 7) l (E.b 7)], .int .i64 0]) [(5, (fun E => ownFx 75 1 (E.f 5) l (E.b 5) (wcells (layK X fr lv d s 2) l)))] [] 7 [fun E => OwnP 75 1 (E.f 7) l (E.b 7) (wcells (layK X fr lv d s 3) l)]), a1 22 0 0] (.un (.r 3 [aN 2 1 27 9, aN 5 8 0 9] (.r 4 [a1 3 0 2, aN 4 8 0 9, (5, .call 93 (fun _ => [.int .i64 2, .int .i64 lv, dscV (partD d s 3)]) (fun _ => .tuple #[.int .u64 (u (wordD 2 lv (partD d s 3))), .int .i64 0]))] (.r 5 [a1 4 0 0, a1 8 0 1, (9, .rw (fun _ => .int .i64 (IntKind.i64.wrap (fr * 64))) (fun _ => .int .i64 (fr * 64))), (14, .rw (fun _ => .int .i64 (IntKind.i64.wrap ((fr * 64) + 24))) (fun _ => .int .i64 ((fr * 64) + 24))), (16, .callg 94 (fun E => [.agg #[.slice (E.f 7) l (E.b 7)], .int .i64 ((fr * 64) + 24), .int .i64 8, .int .u64 (u (wordD 2 lv (partD d s 3)))]) (fun E => .tuple #[.agg #[.slice (E.f 9) l (E.b 9)], .int .i64 0]) [(7, (fun E => ownFx 75 1 (E.f 7) l (E.b 7) (wcells (layK X fr lv d s 3) l)))] [] 9 [fun E => OwnP 75 1 (E.f 9) l (E.b 9) (wcells (layK X fr lv d s 4) l)]), a1 22 0 0] (.un (.r 3 [aN 2 1 36 9, aN 5 10 0 9] (.r 4 [a1 3 0 2, aN 4 10 0 9, (5, .call 93 (fun _ => [.int .i64 2, .int .i64 lv, dscV (partD d s 4)]) (fun _ => .tuple #[.int .u64 (u (wordD 2 lv (partD d s 4))), .int .i64 0]))] (.r 5 [a1 4 0 0, a1 8 0 1, (9, .rw (fun _ => .int .i64 (IntKind.i64.wrap (fr * 64))) (fun _ => .int .i64 (fr * 64))), (14, .rw (fun _ => .int .i64 (IntKind.i64.wrap ((fr * 64) + 32))) (fun _ => .int .i64 ((fr * 64) + 32))), (16, .callg 94 (fun E => [.agg #[.slice (E.f 9) l (E.b 9)], .int .i64 ((fr * 64) + 32), .int .i64 8, .int .u64 (u (wordD 2 lv (partD d s 4)))]) (fun E => .tuple #[.agg #[.slice (E.f 11) l (E.b 11)], .int .i64 0]) [(9, (fun E => ownFx 75 1 (E.f 9) l (E.b 9) (wcells (layK X fr lv d s 4) l)))] [] 11 [fun E => OwnP 75 1 (E.f 11) l (E.b 11) (wcells (layK X fr lv d s 5) l)]), a1 22 0 0] (.un (.r 3 [aN 2 1 45 9, aN 5 12 0 9] (.r 4 [a1 3 0 2, aN 4 12 0 9, (5, .call 93 (fun _ => [.int .i64 2, .int .i64 lv, dscV (partD d s 5)]) (fun _ => .tuple #[.int .u64 (u (wordD 2 lv (partD d s 5))), .int .i64 0]))] (.r 5 [a1 4 0 0, a1 8 0 1, (9, .rw (fun _ => .int .i64 (IntKind.i64.wrap (fr * 64))) (fun _ => .int .i64 (fr * 64))), (14, .rw (fun _ => .int .i64 (IntKind.i64.wrap ((fr * 64) + 40))) (fun _ => .int .i64 ((fr * 64) + 40))), (16, .callg 94 (fun E => [.agg #[.slice (E.f 11) l (E.b 11)], .int .i64 ((fr * 64) + 40), .int .i64 8, .int .u64 (u (wordD 2 lv (partD d s 5)))]) (fun E => .tuple #[.agg #[.slice (E.f 13) l (E.b 13)], .int .i64 0]) [(11, (fun E => ownFx 75 1 (E.f 11) l (E.b 11) (wcells (layK X fr lv d s 5) l)))] [] 13 [fun E => OwnP 75 1 (E.f 13) l (E.b 13) (wcells (layK X fr lv d s 6) l)]), a1 22 0 0] (.un (.r 3 [aN 2 1 54 9, aN 5 14 0 9] (.r 4 [a1 3 0 2, aN 4 14 0 9, (5, .call 93 (fun _ => [.int .i64 2, .int .i64 lv, dscV (partD d s 6)]) (fun _ => .tuple #[.int .u64 (u (wordD 2 lv (partD d s 6))), .int .i64 0]))] (.r 5 [a1 4 0 0, a1 8 0 1, (9, .rw (fun _ => .int .i64 (IntKind.i64.wrap (fr * 64))) (fun _ => .int .i64 (fr * 64))), (14, .rw (fun _ => .int .i64 (IntKind.i64.wrap ((fr * 64) + 48))) (fun _ => .int .i64 ((fr * 64) + 48))), (16, .callg 94 (fun E => [.agg #[.slice (E.f 13) l (E.b 13)], .int .i64 ((fr * 64) + 48), .int .i64 8, .int .u64 (u (wordD 2 lv (partD d s 6)))]) (fun E => .tuple #[.agg #[.slice (E.f 15) l (E.b 15)], .int .i64 0]) [(13, (fun E => ownFx 75 1 (E.f 13) l (E.b 13) (wcells (layK X fr lv d s 6) l)))] [] 15 [fun E => OwnP 75 1 (E.f 15) l (E.b 15) (wcells (layK X fr lv d s 7) l)]), a1 22 0 0] (.un (.r 3 [aN 2 1 63 9, aN 5 16 0 9] (.r 4 [a1 3 0 2, aN 4 16 0 9, (5, .call 93 (fun _ => [.int .i64 2, .int .i64 lv, dscV (partD d s 7)]) (fun _ => .tuple #[.int .u64 (u (wordD 2 lv (partD d s 7))), .int .i64 0]))] (.r 5 [a1 4 0 0, a1 8 0 1, (9, .rw (fun _ => .int .i64 (IntKind.i64.wrap (fr * 64))) (fun _ => .int .i64 (fr * 64))), (14, .rw (fun _ => .int .i64 (IntKind.i64.wrap ((fr * 64) + 56))) (fun _ => .int .i64 ((fr * 64) + 56))), (16, .callg 94 (fun E => [.agg #[.slice (E.f 15) l (E.b 15)], .int .i64 ((fr * 64) + 56), .int .i64 8, .int .u64 (u (wordD 2 lv (partD d s 7)))]) (fun E => .tuple #[.agg #[.slice (E.f 17) l (E.b 17)], .int .i64 0]) [(15, (fun E => ownFx 75 1 (E.f 15) l (E.b 15) (wcells (layK X fr lv d s 7) l)))] [] 17 [fun E => OwnP 75 1 (E.f 17) l (E.b 17) (wcells (layK X fr lv d s 8) l)]), a1 22 0 0] (.un (.fin [] (fun _ => .tuple #[]) [(0, (fun E => ⟨b, 0, 62, [.slice (E.f 17) l (E.b 17), .int .i64 fr, .int .i64 lv], .own⟩)), (17, (fun E => ownFx 75 1 (E.f 17) l (E.b 17) (wcells (layK X fr lv d s 8) l)))]))))))))))))))))))))))))))))))))))) Tryz.func72 rfl hF (⟨fun _ W _ => by have h := dindex_yes lv 0 W (numB_iff.2 ⟨l0, l1⟩) (by decide); rw [show idx lv 0 = 0 by unfold idx; simp] at h; exact h, fun _ W _ => dword_yes 2 lv (partD d s 0).k (partD d s 0).f (partD d s 0).r (partD d s 0).w (partD d s 0).x (partD d s 0).a (partD d s 0).n (partD d s 0).s (partD d s 0).o W (hd 0 (by decide) (by decide)), fun _ => by rw [IntWalk.i64_in _ (by omega)], fun _ => by rw [IntWalk.i64_in _ (by omega)], fun E W hk hp => (write_ok f l c X ((fr * 64) + 0) 8 _ W (hX W hk) hM (by have h := may8 hM hb9 (j := 0) (by decide) (by decide); exact h)).mono fun e w' h => by obtain ⟨f', c', he, h1, h2⟩ := h; have e9 := wr8 X fr 0 (wordD 2 lv (partD d s 0)) hfr.1 (by decide); exact GPost.own1 hk h2 (by have h3 : OwnW w' W.heap.size (.slice f' l c') l (wrV X (fr * 64 + 0 * 8) 8 (wordD 2 lv (partD d s 0))) := h1; rw [e9] at h3; exact h3) (by rw [he, set_f, set_c]), fun _ W _ => dword_yes 2 lv (partD d s 1).k (partD d s 1).f (partD d s 1).r (partD d s 1).w (partD d s 1).x (partD d s 1).a (partD d s 1).n (partD d s 1).s (partD d s 1).o W (hd 1 (by decide) (by decide)), fun _ => by rw [IntWalk.i64_in _ (by omega)], fun _ => by rw [IntWalk.i64_in _ (by omega)], fun E W hk hp => (write_ok (E.f 3) l (E.b 3) (layK X fr lv d s 1) ((fr * 64) + 8) 8 _ W (own_wordsM (hp.1 _ (List.mem_singleton.2 rfl))) hM (by have h := may8 hM hb9 (j := 1) (by decide) (by decide); exact h)).mono fun e w' h => by obtain ⟨f', c', he, h1, h2⟩ := h; have e9 := wr8 (layK X fr lv d s 1) fr 1 (wordD 2 lv (partD d s 1)) hfr.1 (by decide); exact GPost.own1 hk h2 (by have h3 : OwnW w' W.heap.size (.slice f' l c') l (wrV (layK X fr lv d s 1) (fr * 64 + 1 * 8) 8 (wordD 2 lv (partD d s 1))) := h1; rw [e9] at h3; exact h3) (by rw [he, set_f, set_c]), fun _ W _ => dword_yes 2 lv (partD d s 2).k (partD d s 2).f (partD d s 2).r (partD d s 2).w (partD d s 2).x (partD d s 2).a (partD d s 2).n (partD d s 2).s (partD d s 2).o W (hd 2 (by decide) (by decide)), fun _ => by rw [IntWalk.i64_in _ (by omega)], fun _ => by rw [IntWalk.i64_in _ (by omega)], fun E W hk hp => (write_ok (E.f 5) l (E.b 5) (layK X fr lv d s 2) ((fr * 64) + 16) 8 _ W (own_wordsM (hp.1 _ (List.mem_singleton.2 rfl))) hM (by have h := may8 hM hb9 (j := 2) (by decide) (by decide); exact h)).mono fun e w' h => by obtain ⟨f', c', he, h1, h2⟩ := h; have e9 := wr8 (layK X fr lv d s 2) fr 2 (wordD 2 lv (partD d s 2)) hfr.1 (by decide); exact GPost.own1 hk h2 (by have h3 : OwnW w' W.heap.size (.slice f' l c') l (wrV (layK X fr lv d s 2) (fr * 64 + 2 * 8) 8 (wordD 2 lv (partD d s 2))) := h1; rw [e9] at h3; exact h3) (by rw [he, set_f, set_c]), fun _ W _ => dword_yes 2 lv (partD d s 3).k (partD d s 3).f (partD d s 3).r (partD d s 3).w (partD d s 3).x (partD d s 3).a (partD d s 3).n (partD d s 3).s (partD d s 3).o W (hd 3 (by decide) (by decide)), fun _ => by rw [IntWalk.i64_in _ (by omega)], fun _ => by rw [IntWalk.i64_in _ (by omega)], fun E W hk hp => (write_ok (E.f 7) l (E.b 7) (layK X fr lv d s 3) ((fr * 64) + 24) 8 _ W (own_wordsM (hp.1 _ (List.mem_singleton.2 rfl))) hM (by have h := may8 hM hb9 (j := 3) (by decide) (by decide); exact h)).mono fun e w' h => by obtain ⟨f', c', he, h1, h2⟩ := h; have e9 := wr8 (layK X fr lv d s 3) fr 3 (wordD 2 lv (partD d s 3)) hfr.1 (by decide); exact GPost.own1 hk h2 (by have h3 : OwnW w' W.heap.size (.slice f' l c') l (wrV (layK X fr lv d s 3) (fr * 64 + 3 * 8) 8 (wordD 2 lv (partD d s 3))) := h1; rw [e9] at h3; exact h3) (by rw [he, set_f, set_c]), fun _ W _ => dword_yes 2 lv (partD d s 4).k (partD d s 4).f (partD d s 4).r (partD d s 4).w (partD d s 4).x (partD d s 4).a (partD d s 4).n (partD d s 4).s (partD d s 4).o W (hd 4 (by decide) (by decide)), fun _ => by rw [IntWalk.i64_in _ (by omega)], fun _ => by rw [IntWalk.i64_in _ (by omega)], fun E W hk hp => (write_ok (E.f 9) l (E.b 9) (layK X fr lv d s 4) ((fr * 64) + 32) 8 _ W (own_wordsM (hp.1 _ (List.mem_singleton.2 rfl))) hM (by have h := may8 hM hb9 (j := 4) (by decide) (by decide); exact h)).mono fun e w' h => by obtain ⟨f', c', he, h1, h2⟩ := h; have e9 := wr8 (layK X fr lv d s 4) fr 4 (wordD 2 lv (partD d s 4)) hfr.1 (by decide); exact GPost.own1 hk h2 (by have h3 : OwnW w' W.heap.size (.slice f' l c') l (wrV (layK X fr lv d s 4) (fr * 64 + 4 * 8) 8 (wordD 2 lv (partD d s 4))) := h1; rw [e9] at h3; exact h3) (by rw [he, set_f, set_c]), fun _ W _ => dword_yes 2 lv (partD d s 5).k (partD d s 5).f (partD d s 5).r (partD d s 5).w (partD d s 5).x (partD d s 5).a (partD d s 5).n (partD d s 5).s (partD d s 5).o W (hd 5 (by decide) (by decide)), fun _ => by rw [IntWalk.i64_in _ (by omega)], fun _ => by rw [IntWalk.i64_in _ (by omega)], fun E W hk hp => (write_ok (E.f 11) l (E.b 11) (layK X fr lv d s 5) ((fr * 64) + 40) 8 _ W (own_wordsM (hp.1 _ (List.mem_singleton.2 rfl))) hM (by have h := may8 hM hb9 (j := 5) (by decide) (by decide); exact h)).mono fun e w' h => by obtain ⟨f', c', he, h1, h2⟩ := h; have e9 := wr8 (layK X fr lv d s 5) fr 5 (wordD 2 lv (partD d s 5)) hfr.1 (by decide); exact GPost.own1 hk h2 (by have h3 : OwnW w' W.heap.size (.slice f' l c') l (wrV (layK X fr lv d s 5) (fr * 64 + 5 * 8) 8 (wordD 2 lv (partD d s 5))) := h1; rw [e9] at h3; exact h3) (by rw [he, set_f, set_c]), fun _ W _ => dword_yes 2 lv (partD d s 6).k (partD d s 6).f (partD d s 6).r (partD d s 6).w (partD d s 6).x (partD d s 6).a (partD d s 6).n (partD d s 6).s (partD d s 6).o W (hd 6 (by decide) (by decide)), fun _ => by rw [IntWalk.i64_in _ (by omega)], fun _ => by rw [IntWalk.i64_in _ (by omega)], fun E W hk hp => (write_ok (E.f 13) l (E.b 13) (layK X fr lv d s 6) ((fr * 64) + 48) 8 _ W (own_wordsM (hp.1 _ (List.mem_singleton.2 rfl))) hM (by have h := may8 hM hb9 (j := 6) (by decide) (by decide); exact h)).mono fun e w' h => by obtain ⟨f', c', he, h1, h2⟩ := h; have e9 := wr8 (layK X fr lv d s 6) fr 6 (wordD 2 lv (partD d s 6)) hfr.1 (by decide); exact GPost.own1 hk h2 (by have h3 : OwnW w' W.heap.size (.slice f' l c') l (wrV (layK X fr lv d s 6) (fr * 64 + 6 * 8) 8 (wordD 2 lv (partD d s 6))) := h1; rw [e9] at h3; exact h3) (by rw [he, set_f, set_c]), fun _ W _ => dword_yes 2 lv (partD d s 7).k (partD d s 7).f (partD d s 7).r (partD d s 7).w (partD d s 7).x (partD d s 7).a (partD d s 7).n (partD d s 7).s (partD d s 7).o W (hd 7 (by decide) (by decide)), fun _ => by rw [IntWalk.i64_in _ (by omega)], fun _ => by rw [IntWalk.i64_in _ (by omega)], fun E W hk hp => (write_ok (E.f 15) l (E.b 15) (layK X fr lv d s 7) ((fr * 64) + 56) 8 _ W (own_wordsM (hp.1 _ (List.mem_singleton.2 rfl))) hM (by have h := may8 hM hb9 (j := 7) (by decide) (by decide); exact h)).mono fun e w' h => by obtain ⟨f', c', he, h1, h2⟩ := h; have e9 := wr8 (layK X fr lv d s 7) fr 7 (wordD 2 lv (partD d s 7)) hfr.1 (by decide); exact GPost.own1 hk h2 (by have h3 : OwnW w' W.heap.size (.slice f' l c') l (wrV (layK X fr lv d s 7) (fr * 64 + 7 * 8) 8 (wordD 2 lv (partD d s 7))) := h1; rw [e9] at h3; exact h3) (by rw [he, set_f, set_c]), fun E W hk hp => ⟨E.f 17, E.b 17, rfl, hp.2 rfl⟩⟩) rfl (fun _ => by kernel_rfl)
set_option maxRecDepth 100000 in
theorem psplit_any (f : Option Addr) (l c : Nat) (fr lv : Int) (d : Dsc) (mid : Int) (sP : Value) (X : Nat → BitVec 64) (n : Int) (b : Nat) (W0 : World) (hb : W0.heap[b]? = some (.cells (wayL f l c fr lv d mid sP).toArray 64)) (hX0 : WordsAt W0 f l X) (hf0 : ∀ g, f = some g → g.block ≠ b) (hM : okM l = true) (hb9 : hasB l fr = true) (l0 : 0 ≤ lv) (l1 : lv ≤ 2) (m0 : 0 ≤ mid) (m1 : mid ≤ 4095) (hn9 : hasB l n = true) (hd : mayD 2 lv d = true) (hk2 : d.k = 2) :
    Calls Tryz.prog 75 #[.pointer (some ⟨b, 0, none⟩), .int .i64 n] W0 (LayE b 64 (fun f' c' => wayL f' l c' fr lv d mid sP) l (putX (layK X n (lv + 1) d (cov (lv + 1)) 8) fr lv mid (tabD n)) W0) := by
  obtain ⟨_, _, f0, f1, _, _⟩ := leaf_may hd hk2
  have hX : ∀ w, Keep [b] W0 w → WordsAt w f l X := fun w hk => words_keep hX0 hk fun g hg h => hf0 g hg (List.mem_singleton.1 h)
  have h0 : IntKind.i64.wrap (lv + 1) = lv + 1 := IntWalk.i64_in _ (by omega)
  have hfb : ∀ {i : Nat} {t : TypeId} {cs : List Value} {W : World} (g : Addr), f = some g → Keep [b] W0 W → (⟨i, 0, t, cs, .own⟩ : Bx).Holds [b] W0 W → g.block ∈ [i] → False := fun g hg hk h hm => by
    obtain rfl := List.mem_singleton.1 hm
    rcases h.2.1 with h1 | h1
    · exact hf0 g hg (List.mem_singleton.1 h1)
    · obtain ⟨b1, o1, he, hc⟩ := hX0 0 (by have := okM_true hM; omega)
      rw [hg] at he
      injection he with he
      subst he
      have := cell_block hc
      simp only at h1 this
      omega
  exact calls_ex mixedT [⟨b, 0, 64, wayL f l c fr lv d mid sP, .own⟩] (.r 0 [a1 4 0 0, a1 10 0 2, (11, .rw (fun _ => .int .i64 (IntKind.i64.wrap (lv + 1))) (fun _ => .int .i64 (lv + 1))), aN 14 1 0 3] (.r 1 [(1, .callg 95 (fun _ => [.pointer (some ⟨b, 0, none⟩)]) (fun E => .slice (some ⟨E.b 2, 0, none⟩) 8 8) [(0, (fun _ => ⟨b, 0, 64, wayL f l c fr lv d mid sP, .own⟩))] [] 2 [fun E => OwnB 37 (partsC d (cov (lv + 1))) (E.f 2) (E.b 2)]), (2, .callg 72 (fun E => [.pointer (some ⟨E.b 1, 0, none⟩), .int .i64 0, .slice (some ⟨E.b 2, 0, none⟩) 8 8]) (fun _ => .tuple #[]) [(1, (fun E => ⟨E.b 1, 0, 62, [.slice f l c, .int .i64 n, .int .i64 (lv + 1)], .own⟩)), (2, (fun E => ⟨0, 0, 0, [], .fact ((E.f 2).map (·.block)) (OwnB 37 (partsC d (cov (lv + 1))) (E.f 2) (E.b 2))⟩))] [(1, (fun E => ⟨E.b 1, 0, 62, [.slice (E.f 3) l (E.b 3), .int .i64 n, .int .i64 (lv + 1)], .own⟩))] 3 [fun E => OwnP 75 1 (E.f 3) l (E.b 3) (wcells (layK X n (lv + 1) d (cov (lv + 1)) 8) l)])] (.r 2 [a1 2 1 0, a1 6 0 0] (.r 3 [(2, .call 71 (fun _ => [.int .i64 n]) (fun _ => dscV (tabD n))), (3, .callg 47 (fun _ => [.pointer (some ⟨b, 0, none⟩), dscV (tabD n)]) (fun _ => .tuple #[]) [(0, (fun E => ⟨b, 0, 64, wayL (E.f 3) l (E.b 3) fr lv d mid sP, .own⟩)), (3, (fun E => ownFx 75 1 (E.f 3) l (E.b 3) (wcells (layK X n (lv + 1) d (cov (lv + 1)) 8) l)))] [(0, (fun E => ⟨b, 0, 64, wayL (E.f 4) l (E.b 4) fr lv d mid sP, .own⟩))] 4 [fun E => OwnP 75 1 (E.f 4) l (E.b 4) (wcells (putX (layK X n (lv + 1) d (cov (lv + 1)) 8) fr lv mid (tabD n)) l)])] (.fin [] (fun _ => .tuple #[]) [(0, (fun E => ⟨b, 0, 64, wayL (E.f 4) l (E.b 4) fr lv d mid sP, .own⟩)), (4, (fun E => ownFx 75 1 (E.f 4) l (E.b 4) (wcells (putX (layK X n (lv + 1) d (cov (lv + 1)) 8) fr lv mid (tabD n)) l)))]))))) Tryz.func75 rfl (Fits.box hb) (⟨fun _ => by rw [IntWalk.i64_in _ (by omega)], fun E W hk hp => (pparts_any f l c fr lv d mid sP b W (Fits.row1 (hp.1 _ (List.mem_singleton.2 rfl)) _) l0 l1 f0 f1).mono fun e w' h => h.post hk, fun E W hk hp => (playT_any f l c n (lv + 1) X d (cov (lv + 1)) _ _ W (fits_part (hp.2 rfl)) (fun w hw => words_keep (hX W hk) hw (fun g hg h => hfb g hg hk (hp.1 _ (List.mem_cons_self ..)) h)) hM hn9 (by omega) (by omega) (fun i i0 i1 => part_may hd hk2 l0 l1 i0 i1)).mono fun e w' h => h.post hk hp.1, fun _ W _ => ptab_any n W, fun E W hk hp => (pstand_any (E.f 3) l (E.b 3) fr lv d mid sP (layK X n (lv + 1) d (cov (lv + 1)) 8) (tabD n) b W (hp.1 _ (List.mem_cons_self ..)).2.2 (words_apart (hp.2 rfl)) hM hb9 l0 (by omega) m0 m1 (mayE_tab hM hn9 l0 l1)).mono fun e w' h => h.post hk hp.1, fun E W hk hp => ⟨E.f 4, E.b 4, rfl, hp.2 rfl⟩⟩) rfl (fun _ => by kernel_rfl)
/-- A row of mapped pages that is handed out. -/
def RowM (w : World) (L : List (Int × Int)) (e : Ending) (w' : World) : Prop := ∃ f c, e = .returned (.slice f L.length c) ∧ OwnR KMm w' w.heap.size (.slice f L.length c) L ∧ Below w.heap.size w w'
structure MpX where
  j : Nat
  g : Option Addr
  k : Nat
def MpX.I (f : Option Addr) (l c : Nat) (fr lv : Int) (d : Dsc) (mid : Int) (sP : Value) (b : Nat) (n : Nat) (w0 : World) (x : MpX) (a : Act) (w : World) : Prop := (x.j ≤ n) ∧ Has Tryz.f28.ntmps [(0, .pointer (some ⟨b, 0, none⟩)), (2, .slice x.g (mapsK mid d.f x.j).length x.k), (15, .int .i64 (n : Int)), (16, .int .i64 x.j)] a ∧ Fits [] w0 [⟨b, 0, 64, wayL f l c fr lv d mid sP, .row⟩, ownFx KMm.t KMm.N x.g (mapsK mid d.f x.j).length x.k (rcells KMm (mapsK mid d.f x.j))] w
theorem pm_loop_rest (f : Option Addr) (l c : Nat) (fr lv : Int) (d : Dsc) (mid : Int) (sP : Value) (b : Nat) (n : Nat) {w0 W : World} {a : Act} {Q : Exit → Act → World → Prop} (hn9 : n ≤ 512) (f0 : 0 ≤ d.f) (f1 : d.f ≤ 4095) (m0 : 0 ≤ mid) (m1 : mid ≤ 4095) (j : Nat) (g : Option Addr) (k : Nat) (hz : j = n)
    (hT : Has Tryz.f28.ntmps [(0, .pointer (some ⟨b, 0, none⟩)), (2, .slice g (mapsK mid d.f j).length k), (15, .int .i64 (n : Int)), (16, .int .i64 j)] a) (hF : Fits [] w0 [⟨b, 0, 64, wayL f l c fr lv d mid sP, .row⟩, ownFx KMm.t KMm.N g (mapsK mid d.f j).length k (rcells KMm (mapsK mid d.f j))] W) (hQr : ∀ a w, bodyPost Tryz.prog Tryz.f28 (RowM w0 (mapsK mid d.f n)) .ret a w → Q .ret a w) : wpI Tryz.prog Q (restAt Tryz.f28 0) (.exit 0) a W := by
  exact wpI_pop (k' := popD 0 (restAt Tryz.f28 0)) (by kernel_rfl) (wpI_ex mixedT Tryz.f28 (popD 0 (restAt Tryz.f28 0)) [(0, .pointer (some ⟨b, 0, none⟩)), (2, .slice g (mapsK mid d.f j).length k), (15, .int .i64 (n : Int)), (16, .int .i64 j)] [⟨b, 0, 64, wayL f l c fr lv d mid sP, .row⟩, ownFx KMm.t KMm.N g (mapsK mid d.f j).length k (rcells KMm (mapsK mid d.f j))] (.fin [] (fun _ => .slice g (mapsK mid d.f j).length k) [(1, (fun _ => ownFx KMm.t KMm.N g (mapsK mid d.f j).length k (rcells KMm (mapsK mid d.f j))))]) hT hF (fun E W hk hp => by subst hz; exact ⟨g, k, rfl, own_base (hp.1 _ (List.mem_singleton.2 rfl)), hk.below⟩) (R := (RowM w0 (mapsK mid d.f n))) (J := fun _ _ _ => False) hQr (fun _ _ _ h => h.elim) (fun _ => by kernel_rfl))
set_option maxRecDepth 100000 in
theorem pm_loop (f : Option Addr) (l c : Nat) (fr lv : Int) (d : Dsc) (mid : Int) (sP : Value) (b : Nat) (n : Nat) {w0 W : World} {a : Act} {Q : Exit → Act → World → Prop} (hn9 : n ≤ 512) (f0 : 0 ≤ d.f) (f1 : d.f ≤ 4095) (m0 : 0 ≤ mid) (m1 : mid ≤ 4095) (x0 : MpX) (hI : MpX.I f l c fr lv d mid sP b n w0 x0 a W) (hQr : ∀ a w, bodyPost Tryz.prog Tryz.f28 (RowM w0 (mapsK mid d.f n)) .ret a w → Q .ret a w) : wpI Tryz.prog Q (.code (nthLoop Tryz.f28 0) :: restAt Tryz.f28 0) .normal a W := by
  rw [show nthLoop Tryz.f28 0 = .loop (bodyOf (nthLoop Tryz.f28 0)) from by kernel_rfl]
  refine wp_lp (fun x a w => MpX.I f l c fr lv d mid sP b n w0 x a w) (fun x => n - x.j) x0 hI fun x a w hI => ?_
  obtain ⟨j, g, k⟩ := x
  obtain ⟨hj, hT, hF⟩ := hI
  simp only at hj hT hF
  by_cases hlt : j < n
  · have hd : decide ((j : Int) < (n : Int)) = true := decide_eq_true (by omega)
    have hjw : IntKind.i64.wrap ((j : Int) + 1) = ((j + 1 : Nat) : Int) := (IntWalk.i64_in _ (by omega)).trans (by omega)
    exact wp_ex mixedT Tryz.f28 [(0, .pointer (some ⟨b, 0, none⟩)), (2, .slice g (mapsK mid d.f j).length k), (15, .int .i64 (n : Int)), (16, .int .i64 j)] [⟨b, 0, 64, wayL f l c fr lv d mid sP, .row⟩, ownFx KMm.t KMm.N g (mapsK mid d.f j).length k (rcells KMm (mapsK mid d.f j))] (.r 4 [(0, .rw (fun _ => .bool (decide ((j : Int) < (n : Int)))) (fun _ => .bool true))] (.r 6 [a1 4 0 12, (6, .rw (fun _ => .int .i64 (IntKind.i64.wrap (mid + j))) (fun _ => .int .i64 (mid + j))), a1 11 0 4, (13, .rw (fun _ => .int .i64 (IntKind.i64.wrap (d.f + j))) (fun _ => .int .i64 (d.f + j))), (16, .opc (.call ⟨.builtin .append, #[(.tmp 19), (.tmp 34)], #[43, 43]⟩) (fun E => [.slice g (mapsK mid d.f j).length k, .slice (some ⟨E.b 2, 0, none⟩) 1 1]) (fun E => .slice (E.f 3) (mapsK mid d.f (j + 1)).length (E.b 3)) [(1, (fun _ => ownFx KMm.t KMm.N g (mapsK mid d.f j).length k (rcells KMm (mapsK mid d.f j)))), (2, (fun E => ⟨E.b 2, 0, 74, [.int .i64 (mid + j), .int .i64 (d.f + j)], .own⟩))] [(1, fun _ => noBx)] 3 [fun E => OwnP KMm.t KMm.N (E.f 3) (mapsK mid d.f (j + 1)).length (E.b 3) (rcells KMm (mapsK mid d.f (j + 1)))])] (.r 7 [(0, .rw (fun _ => .int .i64 (IntKind.i64.wrap (j + 1))) (fun _ => .int .i64 ((j + 1 : Nat) : Int)))] (.out none (fun E => [(0, .pointer (some ⟨b, 0, none⟩)), (2, .slice (E.f 3) (mapsK mid d.f (j + 1)).length (E.b 3)), (15, .int .i64 (n : Int)), (16, .int .i64 ((j + 1 : Nat) : Int))]) [(0, (fun _ => ⟨b, 0, 64, wayL f l c fr lv d mid sP, .row⟩)), (3, (fun E => ownFx KMm.t KMm.N (E.f 3) (mapsK mid d.f (j + 1)).length (E.b 3) (rcells KMm (mapsK mid d.f (j + 1)))))])))) hT hF (⟨fun _ => congrArg Value.bool hd, fun _ => by rw [IntWalk.i64_in _ (by omega)], fun _ => by rw [IntWalk.i64_in _ (by omega)], fun E W ρ o ho hx hk hp => pushQ_opc (K := KMm) (q := (mid + (j : Int), d.f + (j : Int))) ho hx hk hp.1 rfl (by rw [mapsK_len]; omega), fun _ => by rw [hjw], fun E _ _ hT1 hF1 => ⟨⟨j + 1, E.f 3, E.b 3⟩, ⟨(show j + 1 ≤ n by omega), hT1, by exact hF1⟩, by (show n - (j + 1) < n - j; omega)⟩⟩) (R := (RowM w0 (mapsK mid d.f n))) (J := fun ze a' w' => match ze with | .normal => ∃ x' : MpX, MpX.I f l c fr lv d mid sP b n w0 x' a' w' ∧ (n - x'.j) < (n - j) | ze => wpI Tryz.prog Q (restAt Tryz.f28 0) ze a' w') (fun _ _ h => wpI_ret (hQr _ _ h)) (fun e _ _ h => by cases e <;> exact h) (fun _ => by kernel_rfl)
  · have hd : decide ((j : Int) < (n : Int)) = false := decide_eq_false (by omega)
    exact wp_ex mixedT Tryz.f28 [(0, .pointer (some ⟨b, 0, none⟩)), (2, .slice g (mapsK mid d.f j).length k), (15, .int .i64 (n : Int)), (16, .int .i64 j)] [⟨b, 0, 64, wayL f l c fr lv d mid sP, .row⟩, ownFx KMm.t KMm.N g (mapsK mid d.f j).length k (rcells KMm (mapsK mid d.f j))] (.r 4 [(0, .rw (fun _ => .bool (decide ((j : Int) < (n : Int)))) (fun _ => .bool false))] (.out (some 0) (fun _ => [(0, .pointer (some ⟨b, 0, none⟩)), (2, .slice g (mapsK mid d.f j).length k), (15, .int .i64 (n : Int)), (16, .int .i64 j)]) [(0, (fun _ => ⟨b, 0, 64, wayL f l c fr lv d mid sP, .row⟩)), (1, (fun _ => ownFx KMm.t KMm.N g (mapsK mid d.f j).length k (rcells KMm (mapsK mid d.f j))))])) hT hF (⟨fun _ => congrArg Value.bool hd, fun E a w hT1 hF1 => pm_loop_rest f l c fr lv d mid sP b n hn9 f0 f1 m0 m1 j g k (by omega) hT1 hF1 hQr⟩) (R := (RowM w0 (mapsK mid d.f n))) (J := fun ze a' w' => match ze with | .normal => ∃ x' : MpX, MpX.I f l c fr lv d mid sP b n w0 x' a' w' ∧ (n - x'.j) < (n - j) | ze => wpI Tryz.prog Q (restAt Tryz.f28 0) ze a' w') (fun _ _ h => wpI_ret (hQr _ _ h)) (fun e _ _ h => by cases e <;> exact h) (fun _ => by kernel_rfl)
theorem pmaps_any (f : Option Addr) (l c : Nat) (fr lv : Int) (d : Dsc) (mid : Int) (sP : Value) (b : Nat) (w : World) (hb : Fits [] w [⟨b, 0, 64, wayL f l c fr lv d mid sP, .row⟩] w) (l0 : 0 ≤ lv) (l1 : lv ≤ 3) (f0 : 0 ≤ d.f) (f1 : d.f ≤ 4095) (m0 : 0 ≤ mid) (m1 : mid ≤ 4095) :
    Calls Tryz.prog 28 #[.pointer (some ⟨b, 0, none⟩)] w (RowM w (mapsD mid lv d)) := by
  have hc := cov_pos lv
  obtain ⟨n, hn⟩ : ∃ n : Nat, cov lv = (n : Int) := ⟨(cov lv).toNat, by omega⟩
  exact calls_ex mixedT [⟨b, 0, 64, wayL f l c fr lv d mid sP, .row⟩] (.r 1 [a1 4 0 3] (.split (d.k != 2) (.fin [] (fun _ => .slice none 0 0) []) (.r 3 [a1 4 0 2, (5, .call 29 (fun _ => [.int .i64 lv]) (fun _ => .int .i64 ((n : Nat) : Int)))] (.lp (restAt Tryz.f28 0) (nthLoop Tryz.f28 0) (fun _ => [(0, .pointer (some ⟨b, 0, none⟩)), (2, .slice none 0 0), (15, .int .i64 ((n : Nat) : Int)), (16, .int .i64 0)]) [(0, (fun _ => ⟨b, 0, 64, wayL f l c fr lv d mid sP, .row⟩))])))) Tryz.func28 rfl hb (⟨fun hS1 => fun _ _ hk _ => by unfold mapsD; rw [if_neg (by have h := hS1; simp only [bne_iff_ne, ne_eq] at h; exact h)]; exact ⟨none, 0, rfl, World.ownsRow_nil _ _ _ _, hk.below⟩, fun hS1 => ⟨fun _ W _ => by rw [← hn]; exact pcov_any lv W l0 l1, fun E a W hT hF Q hQr _ => pm_loop f l c fr lv d mid sP b n (by omega) f0 f1 m0 m1 ⟨0, none, 0⟩ ⟨Nat.zero_le _, hT, by exact hF.nilrow _ _⟩ (by unfold mapsD at hQr; rw [if_pos (by have h := hS1; simp only [bne_eq_false_iff_eq] at h; exact h), show (cov lv).toNat = n by omega] at hQr; exact hQr)⟩⟩) rfl (fun _ => by kernel_rfl)
end Go.Proofs.YtbhnjaajkolklaaGreat
