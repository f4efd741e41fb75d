/- The engine: what calls hand out: rows of their own as facts; append of a row to a row; a contract's end. -/
import Derived.Test.YtbhnjaajkolklaaEa
import Derived.Laws.AppendOwnNone
set_option linter.all false
namespace Go.Proofs.Ytbhnjaajkolklaa
open Go.ChangeShapes Go.WideShapes Go.ChangeAt Go.RowKit Go.Deep

theorem OwnP.of {W : World} {base : Nat} {e : TypeId} {size : Nat} {f : Option Addr} {n c : Nat} {xs : List Value} (h : W.ownsRow base e size (.slice f n c) n xs) : OwnP e size f n c xs W := by
  refine ⟨h.1, ?_⟩
  rcases h.2 with hn | ⟨g, cap, cur, hv, _, rest⟩
  · exact .inl hn
  · exact .inr ⟨g, cap, cur, hv, Nat.zero_le _, rest⟩
theorem own_at {W : World} {base : Nat} {e : TypeId} {size : Nat} {f : Option Addr} {n c : Nat} {xs : List Value} (h : W.ownsRow base e size (.slice f n c) n xs) : ∀ b, f.map (·.block) = some b → base ≤ b ∧ b < W.heap.size ∧ ∃ cur, W.heap[b]? = some (.cells cur e (0, 0)) := fun b hb => by
  rcases h.2 with ⟨hv, _⟩ | ⟨g, cap, cur, hv, h1, h2, _⟩
  · injection hv with hf
    rw [hf] at hb
    cases hb
  · injection hv with hf
    rw [hf] at hb
    obtain rfl : g = b := Option.some.inj hb
    exact ⟨h1, (Array.getElem?_eq_some_iff.1 h2).1, cur, h2⟩
/-- A call that turns nothing, and hands out new rows. -/
theorem GPost.made {ft : List Nat} {w0 W w' : World} {k : Nat} {v : Env → Value} {pre : BL} {new : List (Env → FV)} {E : Env} {e : Ending} (q : Sup) (hk : Keep ft w0 W) (hb : Below W.heap.size W w') (he : e = .returned (v (envN new E k q)))
    (hn : ∀ (j : Nat) (p : Env → FV), new[j]? = some p → (p (envN new E k q)).h w' ∧ (p (envN new E k q)).loc (q (k + j)).2 ∧ ∀ b, (p (envN new E k q)).s (q (k + j)).2 b → b < w'.heap.size ∧ W.heap.size ≤ b ∧ ∀ j', j' < new.length → j' ≠ j → ∀ p', new[j']? = some p' → ¬ (p' (envN new E k q)).s (q (k + j')).2 b) :
    ∃ q, GPost ft w0 k v pre [] new E W e w' q :=
  ⟨q, he, fun _ hp => (by cases hp), hk.trans (Keep.of hb), hb.size, fun j hj _ => hb.block j hj, fun j p hj => let ⟨h1, h2, h3⟩ := hn j p hj; ⟨h1, h2, fun b hb' => ⟨(h3 b hb').1, Or.inl (h3 b hb').2.1, (h3 b hb').2.2⟩⟩⟩
theorem set_at (E : Env) (k : Nat) (q : Nat × Option Addr) : (E.set k q).e k = q := by simp [Env.set]
theorem set_ne (E : Env) (k i : Nat) (q : Nat × Option Addr) (h : i ≠ k) : (E.set k q).e i = E.e i := by
  have : Nat.beq i k = false := by
    cases hb : Nat.beq i k with
    | false => rfl
    | true => exact absurd (Nat.eq_of_beq_eq_true hb) h
  simp [Env.set, this]
/-- One row. -/
theorem GPost.own1 {ft : List Nat} {w0 W w' : World} {k : Nat} {v : Env → Value} {pre : BL} {E : Env} {e : Ending} {t1 s1 n1 c1 : Nat} {f1 : Option Addr} {xs1 : List Value} (hk : Keep ft w0 W) (hb : Below W.heap.size W w')
    (h1 : w'.ownsRow W.heap.size t1 s1 (.slice f1 n1 c1) n1 xs1) (he : e = .returned (v (E.set k (c1, f1)))) :
    ∃ q, GPost ft w0 k v pre [] [fun E => OwnP t1 s1 (E.f k) n1 (E.b k) xs1] E W e w' q := by
  refine GPost.made (fun _ => (c1, f1)) hk hb he fun j p hj => ?_
  obtain ⟨rfl, rfl⟩ : 0 = j ∧ _ = p := by
    cases j with
    | zero => exact ⟨rfl, Option.some.inj hj⟩
    | succ j => simp at hj
  have e1 : OwnP t1 s1 ((E.set k (c1, f1)).f k) n1 ((E.set k (c1, f1)).b k) xs1 = OwnP t1 s1 f1 n1 c1 xs1 := by rw [set_f, set_c]
  refine ⟨(congrFun e1 w').mpr (OwnP.of h1), (show Local (f1.map fun x : Addr => x.block) _ from (congrArg (Local (f1.map fun x : Addr => x.block)) e1).mpr (OwnP.local _ _ _ _ _ _)), fun b hb' => ?_⟩
  obtain ⟨g1, g2, _⟩ := own_at h1 b hb'
  exact ⟨g2, g1, fun j' h1 h2 => by simp at h1; omega⟩
/-- Two rows, of two types. -/
theorem GPost.own2 {ft : List Nat} {w0 W w' : World} {k : Nat} {v : Env → Value} {pre : BL} {E : Env} {e : Ending} {t1 s1 n1 c1 t2 s2 n2 c2 : Nat} {f1 f2 : Option Addr} {xs1 xs2 : List Value} (hk : Keep ft w0 W) (hb : Below W.heap.size W w') (ht : t1 ≠ t2)
    (h1 : w'.ownsRow W.heap.size t1 s1 (.slice f1 n1 c1) n1 xs1) (h2 : w'.ownsRow W.heap.size t2 s2 (.slice f2 n2 c2) n2 xs2) (he : e = .returned (v ((E.set k (c1, f1)).set (k + 1) (c2, f2)))) :
    ∃ q, GPost ft w0 k v pre [] [fun E => OwnP t1 s1 (E.f k) n1 (E.b k) xs1, fun E => OwnP t2 s2 (E.f (k + 1)) n2 (E.b (k + 1)) xs2] E W e w' q := by
  have hne : ∀ b, f1.map (·.block) = some b → f2.map (·.block) = some b → False := fun b e1 e2 => by
    obtain ⟨_, _, _, g1⟩ := own_at h1 b e1
    obtain ⟨_, _, _, g2⟩ := own_at h2 b e2
    rw [g1] at g2
    injection g2 with g2
    injection g2 with _ g2
    exact ht g2
  refine GPost.made (fun i => if i = k then (c1, f1) else (c2, f2)) hk hb ?_ fun j p hj => ?_
  · simp only [envN, if_true]
    rw [if_neg (by omega)]
    exact he
  · simp only [envN, if_true]
    rw [if_neg (by omega : k + 1 ≠ k)]
    have hb1 : ((E.set k (c1, f1)).set (k + 1) (c2, f2)).e k = (c1, f1) := by rw [set_ne _ _ _ _ (by omega), set_at]
    cases j with
    | zero =>
      obtain rfl := Option.some.inj hj
      have e1 : OwnP t1 s1 (((E.set k (c1, f1)).set (k + 1) (c2, f2)).f k) n1 (((E.set k (c1, f1)).set (k + 1) (c2, f2)).b k) xs1 = OwnP t1 s1 f1 n1 c1 xs1 := by
        unfold Env.f Env.b
        rw [hb1]
      rw [if_pos (show k + 0 = k from rfl)]
      refine ⟨(congrFun e1 w').mpr (OwnP.of h1), (show Local (f1.map fun x : Addr => x.block) _ from (congrArg (Local (f1.map fun x : Addr => x.block)) e1).mpr (OwnP.local _ _ _ _ _ _)), fun b hb' => ?_⟩
      obtain ⟨g1, g2, _⟩ := own_at h1 b hb'
      refine ⟨g2, g1, fun j' h1 h2 p' hp' => ?_⟩
      rw [if_neg (by omega)]
      obtain rfl : j' = 1 := by simp at h1; omega
      obtain rfl := Option.some.inj hp'
      exact fun h => hne b hb' h
    | succ j =>
      cases j with
      | zero =>
        obtain rfl := Option.some.inj hj
        have e1 : OwnP t2 s2 (((E.set k (c1, f1)).set (k + 1) (c2, f2)).f (k + 1)) n2 (((E.set k (c1, f1)).set (k + 1) (c2, f2)).b (k + 1)) xs2 = OwnP t2 s2 f2 n2 c2 xs2 := by rw [set_f, set_c]
        rw [if_neg (by omega)]
        refine ⟨(congrFun e1 w').mpr (OwnP.of h2), (show Local (f2.map fun x : Addr => x.block) _ from (congrArg (Local (f2.map fun x : Addr => x.block)) e1).mpr (OwnP.local _ _ _ _ _ _)), fun b hb' => ?_⟩
        obtain ⟨g1, g2, _⟩ := own_at h2 b hb'
        refine ⟨g2, g1, fun j' h1 h2 p' hp' => ?_⟩
        obtain rfl : j' = 0 := by simp at h1; omega
        rw [if_pos (show k + 0 = k from rfl)]
        obtain rfl := Option.some.inj hp'
        exact fun h => hne b h hb'
      | succ j => simp at hj
/-- append of a row to a row, and where it lies then. -/
theorem run_append_row {P : Program} {W : World} (t ty e : TypeId) {z : Value} {size bytes : Nat} (ht : P.underlying t = some (.slice e)) (hi : (P.info? e).map (fun i => (i.zero, i.size, i.bytes)) = some (some z, size, bytes)) (hzs : z.cells.size = size) (hsz : 0 < size) (hby : bytes ≤ 1000)
    {f : Option Addr} {n c : Nat} {xs : List Value} (hown : OwnP e size f n c xs W) {g : Option Addr} {m d : Nat} {ys : List Value} (hsrc : OwnP e size g m d ys W) (h1 : ∀ u ∈ ys, u.oneCell' = true) (hlen : n + m ≤ 1000000) :
    ∃ f' c' w', (Builtin.append_ #[t, t] ty #[.slice f n c, .slice g m d]).run P W = .ok (.slice f' (n + m) c') w' ∧ OwnP e size f' (n + m) c' (xs ++ ys) w' ∧ W.grownBy w' (f.map (·.block)) ∧ ∀ b, f'.map (·.block) = some b → f.map (·.block) = some b ∨ W.heap.size ≤ b := by
  by_cases hm : 0 < m
  · rcases hsrc.2 with ⟨_, h0⟩ | ⟨b, cap, cur, hv, _⟩
    · omega
    · injection hv with hg
      subst hg
      exact run_append_at t ty e ht hi hzs hsz hby hown (a := ⟨b, 0, none⟩) (d := d) hsrc.1 (hsrc.cells (g := b) rfl) h1 hlen hm
  · obtain rfl : m = 0 := by omega
    have hys : ys = [] := List.eq_nil_of_length_eq_zero (by rw [hsrc.1]; simp)
    subst hys
    obtain ⟨i, hq, hqz⟩ := Option.map_eq_some_iff.1 hi
    obtain ⟨hz0, hz1, hz2⟩ : i.zero = some z ∧ i.size = size ∧ i.bytes = bytes := by
      simp only [Prod.mk.injEq] at hqz
      exact hqz
    rw [Nat.add_zero, List.append_nil]
    rcases hsrc.2 with ⟨hv, _⟩ | ⟨b, cap, cur, hv, _⟩
    · injection hv with hg _ hd
      subst hg hd
      exact ⟨f, c, W, run_append_owned_none (P := P) (w := W) 0 t ty e i size ht hq (.slice f n c) n xs hown, hown, ⟨rfl, rfl, rfl, Nat.le_refl _, fun _ _ _ => rfl⟩, fun b hb => Or.inl hb⟩
    · injection hv with hg
      subst hg
      have hb : (n + 0) * bytes ≤ 140737488355328 := Nat.le_trans (Nat.mul_le_mul hlen hby) (by decide)
      rcases hown.2 with ⟨hv, h0⟩ | ⟨g, cap, cur, hv, _, hgc, hnc, hcm, hcs, htake⟩
      · injection hv with hf hn0 hc0
        subst hf hn0 hc0
        obtain ⟨v', w', hr, ho, hg, hn⟩ := run_append_own (P := P) W 0 t ty e i z size bytes ht hq hz0 hz1 hz2 hzs hsz (.slice none 0 0) 0 xs hown ⟨b, 0, none⟩ 0 d [] (by simp) (fun j u hj => by simp at hj) (fun u hu => by cases hu) (by unfold maxLen; omega) hb (Nat.zero_le _)
        obtain rfl := hn.2 ⟨rfl, rfl⟩
        rw [List.append_nil] at ho
        exact ⟨none, 0, w', hr, ho, hg, fun b hb => by cases hb⟩
      · injection hv with hf hn0 hc0
        subst hf hc0
        obtain ⟨w', hr, ho, hg⟩ := run_append_fits (P := P) W 0 t ty e i size ht hq hz1 g n c xs hown ⟨b, 0, none⟩ 0 d [] (by simp) (fun j u hj => by simp at hj) (fun u hu => by cases hu) (by omega)
        rw [List.append_nil] at ho
        exact ⟨some ⟨g, 0, none⟩, c, w', hr, ho, hg, fun b hb => Or.inl hb⟩
def newsB (q : Sup) (en : Env) : Nat → List (Env → FV) → List Bx
  | _, [] => []
  | n, p :: l => factB q en n p :: newsB q en (n + 1) l
theorem newsB_get {q : Sup} {en : Env} : ∀ {n : Nat} {l : List (Env → FV)} {j : Nat} {p : Env → FV}, l[j]? = some p → (newsB q en n l)[j]? = some (factB q en (n + j) p)
  | n, [], j, p, h => by simp at h
  | n, p' :: l, 0, p, h => by
    obtain rfl : p' = p := by simpa using h
    rfl
  | n, p' :: l, j + 1, p, h => by
    simp only [newsB, List.getElem?_cons_succ] at h ⊢
    rw [newsB_get (by simpa using h), show n + 1 + j = n + (j + 1) by omega]
theorem Bx.Holds.lift {ft ft0 : List Nat} {w0 W w : World} {x : Bx} (h : x.Holds ft W w) (hf : ∀ b ∈ ft, b ∈ ft0 ∨ w0.heap.size ≤ b) (hs : w0.heap.size ≤ W.heap.size) : x.Holds ft0 w0 w := by
  have key : ∀ b, b ∈ ft ∨ W.heap.size ≤ b → b ∈ ft0 ∨ w0.heap.size ≤ b := fun b hb => hb.elim (hf b) fun h => Or.inr (Nat.le_trans hs h)
  obtain ⟨b, o, t, cs, k⟩ := x
  cases k with
  | no => exact h
  | row => exact h
  | own => exact ⟨h.1, key _ h.2.1, h.2.2⟩
  | fact q p => exact ⟨h.1, fun b' hq => ⟨key b' (h.2.1 b' hq).1, (h.2.1 b' hq).2⟩, h.2.2⟩
  | facts q p => exact ⟨h.1, fun b' hq => ⟨key b' (h.2.1 b' hq).1, (h.2.1 b' hq).2⟩, h.2.2⟩
theorem Bx.Holds.fpl {ft : List Nat} {w0 w : World} {x : Bx} (h : x.Holds ft w0 w) {b : Nat} (hb : x.fp b) : b ∈ ft ∨ w0.heap.size ≤ b := by
  obtain ⟨xb, xo, xt, xc, xk⟩ := x
  cases xk with
  | own =>
    obtain rfl := Option.some.inj hb
    exact h.2.1
  | fact q p => exact (h.2.1 b hb).1
  | facts q p => exact (h.2.1 b hb).1
  | _ => cases hb
theorem fp_of {x y : Bx} (h : x = y) {b : Nat} (hb : y.fp b) : x.fp b := by rw [h]; exact hb
theorem GPost.fin0 {ft ft0 : List Nat} {w0 W w' : World} {k : Nat} {v : Env → Value} {pre post : BL} {new : List (Env → FV)} {E : Env} {e : Ending} (q : Sup) (hk : Keep ft0 w0 W) (hpre : ∀ p ∈ pre, (p.2 E).Holds ft0 w0 W)
    (hft : ∀ b ∈ ft, ∃ p ∈ pre, (p.2 E).fp b ∧ p.1 ∈ post.map Prod.fst)
    (hpp : ∀ p ∈ pre, ∀ p' ∈ post, p'.1 = p.1 → (p'.2 (envN new E k q)).rd = noS ∨ (p'.2 (envN new E k q)).fp = (p.2 E).fp)
    (he : e = .returned (v (envN new E k q))) (hF : Fits ft W ((post.map fun p => p.2 (envN new E k q)) ++ newsB q (envN new E k q) k new) w') : GPost ft0 w0 k v pre post new E W e w' q := by
  have hf0 : ∀ b ∈ ft, b ∈ ft0 ∨ w0.heap.size ≤ b := fun b hb => by
    obtain ⟨p, hp, hfp, _⟩ := hft b hb
    exact (hpre p hp).fpl hfp
  have hpost : ∀ {p' : Nat × (Env → Bx)}, p' ∈ post → ∃ i, i < post.length ∧ ((post.map fun p => p.2 (envN new E k q)) ++ newsB q (envN new E k q) k new)[i]? = some (p'.2 (envN new E k q)) := fun {p'} hp' => by
    obtain ⟨i, hi⟩ := List.getElem?_of_mem hp'
    have hil := (List.getElem?_eq_some_iff.1 hi).1
    refine ⟨i, hil, ?_⟩
    rw [List.getElem?_append_left (by simpa using hil), List.getElem?_map, hi]
    rfl
  have hnews : ∀ {j : Nat} {p : Env → FV}, new[j]? = some p → ((post.map fun p => p.2 (envN new E k q)) ++ newsB q (envN new E k q) k new)[post.length + j]? = some (factB q (envN new E k q) (k + j) p) := fun {j p} hj => by
    rw [List.getElem?_append_right (by simp), List.length_map, Nat.add_sub_cancel_left]
    exact newsB_get hj
  refine ⟨he, fun p' hp' => ?_, hk.under hF.keep hf0, hF.keep.size, fun j hj hn => hF.keep.block j hj fun hm => ?_, fun j p hj => ?_⟩
  · obtain ⟨i, _, hi⟩ := hpost hp'
    exact (hF.all i _ hi).lift hf0 hk.size
  · obtain ⟨p, hp, hfp, hmem⟩ := hft j hm
    exact hn p hp hmem (fp_rd hfp)
  · have hx := hF.all _ _ (hnews hj)
    obtain ⟨hxb, hxh, hxl⟩ := FV.told hx
    have fpb : ∀ {j p b}, (p (envN new E k q)).s (q (k + j)).2 b → (factB q (envN new E k q) (k + j) p).fp b := fun h => by unfold factB; rw [FV.bx_fp]; exact h
    refine ⟨hxh, hxl, fun b hb => ⟨(hxb b hb).2, ?_, fun j' h1 h2 p' hp' h3 => ?_⟩⟩
    · rcases (hxb b hb).1 with hbf | hbn
      · obtain ⟨p0, hp0, hfp, hmem⟩ := hft b hbf
        refine Or.inr ⟨p0, hp0, hfp, hmem, fun p' hp' hpe => ?_⟩
        rcases hpp p0 hp0 p' hp' hpe with h | h
        · exact h
        · obtain ⟨i, hil, hi⟩ := hpost hp'
          exact absurd (fp_rd ((congrFun h b).mpr hfp)) (hF.ne (post.length + j) i _ _ (hnews hj) hi (by omega) b (fpb hb))
      · exact Or.inl hbn
    · exact hF.ne (post.length + j) (post.length + j') _ _ (hnews hj) (hnews hp') (by omega) b (fpb hb) (fp_rd (fpb h3))
theorem GPost.fin {ft ft0 : List Nat} {w0 W w' : World} {k : Nat} {v : Env → Value} {pre post : BL} {new : List (Env → FV)} {E : Env} {e : Ending} (q : Sup) (hk : Keep ft0 w0 W) (hpre : ∀ p ∈ pre, (p.2 E).Holds ft0 w0 W)
    (hft : ∀ b ∈ ft, ∃ p ∈ pre, (p.2 E).fp b ∧ p.1 ∈ post.map Prod.fst)
    (hpp : ∀ p ∈ pre, ∀ p' ∈ post, p'.1 = p.1 → (p'.2 (envN new E k q)).rd = noS ∨ (p'.2 (envN new E k q)).fp = (p.2 E).fp)
    (he : e = .returned (v (envN new E k q))) (hF : Fits ft W ((post.map fun p => p.2 (envN new E k q)) ++ newsB q (envN new E k q) k new) w') : ∃ q, GPost ft0 w0 k v pre post new E W e w' q :=
  ⟨q, GPost.fin0 q hk hpre hft hpp he hF⟩
/-- A row as a fact, named. -/
def ownFx (e : TypeId) (size : Nat) (f : Option Addr) (n c : Nat) (xs : List Value) : Bx := ⟨0, 0, 0, [], .fact (f.map (·.block)) (OwnP e size f n c xs)⟩
/-- A row of one's own grew: the old one is forgotten, the new one is handed out. -/
theorem GPost.grown {ft : List Nat} {w0 W w' : World} {k i : Nat} {v : Env → Value} {rest : BL} {E : Env} {e : Ending} {t size n c n' c' : Nat} {f f' : Option Addr} {xs xs' : List Value} (x0 : Env → Bx) (h0 : x0 E = ownFx t size f n c xs) (hk : Keep ft w0 W) (hp : (x0 E).Holds ft w0 W)
    (hown : OwnP t size f' n' c' xs' w') (hg : W.grownBy w' (f.map (·.block))) (hat : ∀ b, f'.map (·.block) = some b → f.map (·.block) = some b ∨ W.heap.size ≤ b) (he : e = .returned (v (E.set k (c', f')))) :
    ∃ q, GPost ft w0 k v ((i, x0) :: rest) [(i, fun _ => noBx)] [fun E => OwnP t size (E.f k) n' (E.b k) xs'] E W e w' q := by
  have hfp : ∀ {b}, f.map (·.block) = some b → (x0 E).fp b := fun h => by rw [h0]; exact h
  have hrd : ∀ {b}, f.map (·.block) = some b → (x0 E).rd b := fun h => by rw [h0]; exact h
  rw [h0] at hp
  obtain ⟨_, hblk, _, _⟩ := hp
  refine ⟨fun _ => (c', f'), he, fun p hpp => ?_, ⟨hg.os.trans hk.os, hg.tape.trans hk.tape, hg.output.trans hk.output, Nat.le_trans hk.size hg.size, fun j hj hn => (hg.block j (Nat.lt_of_lt_of_le hj hk.size) fun hh => ?_).trans (hk.block j hj hn)⟩, hg.size, fun j hj hn => hg.block j hj fun hh => ?_, fun j p hpp => ?_⟩
  · obtain rfl := List.mem_singleton.1 hpp
    rfl
  · rcases (hblk j hh.symm).1 with h | h
    · exact hn h
    · omega
  · exact hn (i, x0) (List.mem_cons_self ..) (by simp) (hrd hh.symm)
  · obtain ⟨rfl, rfl⟩ : 0 = j ∧ _ = p := by
      cases j with
      | zero => exact ⟨rfl, Option.some.inj hpp⟩
      | succ j => simp at hpp
    have e1 : OwnP t size ((E.set k (c', f')).f k) n' ((E.set k (c', f')).b k) xs' = OwnP t size f' n' c' xs' := by rw [set_f, set_c]
    refine ⟨(congrFun e1 w').mpr hown, (show Local (f'.map fun x : Addr => x.block) _ from (congrArg (Local (f'.map fun x : Addr => x.block)) e1).mpr (OwnP.local _ _ _ _ _ _)), fun j hj => ⟨hown.lt j hj, ?_⟩⟩
    rcases hat j hj with h | h
    · exact ⟨Or.inr ⟨_, List.mem_cons_self .., hfp h, by simp, fun p' hp' _ => by obtain rfl := List.mem_singleton.1 hp'; rfl⟩, fun j' h1 h2 => by simp at h1; omega⟩
    · exact ⟨Or.inl h, fun j' h1 h2 => by simp at h1; omega⟩
/-- What append leaves, of a row of one's own and another row. -/
theorem pushR_opc {P : Program} {ft : List Nat} {w0 W : World} {E : Env} {ρ : Operand → Value} {o : Oper} (ts e : TypeId) {z : Value} {size bytes : Nat} (ht : P.underlying ts = some (.slice e)) (hi : (P.info? e).map (fun i => (i.zero, i.size, i.bytes)) = some (some z, size, bytes)) (hzs : z.cells.size = size) (hsz : 0 < size) (hby : bytes ≤ 1000)
    {s x : Operand} (ho : o.op = .call ⟨.builtin .append, #[s, x], #[ts, ts]⟩) (i k n m : Nat) (xs ys : List Value) {c d : Nat} {f g : Option Addr} {rest : BL} (x0 : Env → Bx) (h0 : x0 E = ownFx e size f n c xs) (hx : [ρ s, ρ x] = [.slice f n c, .slice g m d]) (hk : Keep ft w0 W)
    (hp : (x0 E).Holds ft w0 W) (hsrc : OwnP e size g m d ys W) (h1 : ∀ u ∈ ys, u.oneCell' = true) (hlen : n + m ≤ 1000000) :
    ∃ r q w', (execOp ρ o).run P W = .ok (.value r) w' ∧ GPost ft w0 k (fun E => .slice (E.f k) (n + m) (E.b k)) ((i, x0) :: rest) [(i, fun _ => noBx)] [fun E => OwnP e size (E.f k) (n + m) (E.b k) (xs ++ ys)] E W (.returned r) w' q := by
  simp only [List.cons.injEq, and_true] at hx
  obtain ⟨f', c', w', hr, hown', hg, hat⟩ := run_append_row (P := P) (W := W) ts o.type e ht hi hzs hsz hby (by rw [h0] at hp; exact hp.2.2.1) hsrc h1 hlen
  obtain ⟨q, hq⟩ := GPost.grown (k := k) (v := fun E => .slice (E.f k) (n + m) (E.b k)) (rest := rest) (e := .returned (.slice f' (n + m) c')) x0 h0 hk hp hown' hg hat (by rw [set_f, set_c])
  refine ⟨.slice f' (n + m) c', q, w', ?_, hq⟩
  unfold execOp
  simp only [ho, resolve, invoke, builtin, Sem.run_bind, Sem.run_pure, Result.andThen_ok, List.map_toArray, List.map_cons, List.map_nil, hx.1, hx.2, hr]
end Go.Proofs.Ytbhnjaajkolklaa
