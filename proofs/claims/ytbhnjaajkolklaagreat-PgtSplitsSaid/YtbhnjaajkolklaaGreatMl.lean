/- Stage 16's laws: words spoiled; what a call's answer may be; PgtAlls: contracts. -/
import Derived.Test.YtbhnjaajkolklaaGreatMk
set_option linter.all false
namespace Go.Proofs.YtbhnjaajkolklaaGreat
open Go.ChangeShapes Go.WideShapes Go.ChangeAt Go.RowKit Go.Deep

theorem mayE_leaf (d : Dsc) : mayE 2 3 d = mayD 2 3 d := by unfold mayE; rfl
theorem mayE_note (o : Int) : mayE 2 3 (noteD o) = numB o 15 := by
  rw [mayE_leaf]
  unfold mayD noneD noteD numB
  simp only [eqD_self, Bool.true_and]
  rw [Bool.eq_iff_iff]
  simp
  omega
theorem way_no {l : Nat} {X : Nat → BitVec 64} {root mid dp : Int} {z : WayR} (hm : mayW l mid = false) (hz : wayA l X root mid dp = z) : z.e = 1 := by
  unfold wayA at hz
  rw [if_neg (by rw [hm]; decide)] at hz
  rw [← hz]
theorem mapA_two (l : Nat) (X : Nat → BitVec 64) (z : WayR) (F : List Int) (mid : Int) (d : Dsc) : (∃ Y G, mapA l X z F mid d = ⟨l, Y, G, 0⟩ ∧ G.length ≤ F.length) ∨ ∃ e, mapA l X z F mid d = ⟨0, X, [], e⟩ ∧ e ≠ 0 := by
  unfold mapA
  split
  · exact Or.inr ⟨_, rfl, by decide⟩
  split
  · exact Or.inr ⟨_, rfl, by decide⟩
  split
  · rename_i h
    exact Or.inr ⟨_, rfl, by simpa using h⟩
  split
  · exact Or.inr ⟨_, rfl, by decide⟩
  split
  · exact Or.inr ⟨_, rfl, by decide⟩
  split
  · exact Or.inr ⟨_, rfl, by decide⟩
  · exact Or.inl ⟨_, _, rfl, by simp⟩
theorem splA_two (l : Nat) (X : Nat → BitVec 64) (z : WayR) (F : List Int) (mid : Int) : (∃ Y G, splA l X z F mid = ⟨l, Y, G, 0⟩ ∧ G.length ≤ F.length) ∨ ∃ e, splA l X z F mid = ⟨0, X, [], e⟩ ∧ e ≠ 0 := by
  unfold splA
  split
  · rename_i h
    exact Or.inr ⟨_, rfl, by simpa using h⟩
  split
  · exact Or.inr ⟨_, rfl, by decide⟩
  split
  · exact Or.inr ⟨_, rfl, by decide⟩
  split
  · exact Or.inr ⟨_, rfl, by decide⟩
  · exact Or.inl ⟨_, _, rfl, by simp⟩
theorem unmA_two (l : Nat) (X : Nat → BitVec 64) (z : WayR) (mid o : Int) : (∃ Y D, unmA l X z mid o = ((l, Y), D, 0)) ∨ ∃ e, unmA l X z mid o = ((0, X), dz, e) ∧ e ≠ 0 := by
  unfold unmA
  split
  · exact Or.inr ⟨_, rfl, by decide⟩
  split
  · rename_i h
    exact Or.inr ⟨_, rfl, by simpa using h⟩
  split
  · exact Or.inr ⟨_, rfl, by decide⟩
  · exact Or.inl ⟨_, _, rfl⟩
theorem mapA_no {l : Nat} {X : Nat → BitVec 64} {z : WayR} {F : List Int} {mid : Int} {d : Dsc} (h : z.e = 1 ∨ (d.k == 2) = false ∨ mayE 2 3 d = false) : mapA l X z F mid d = ⟨0, X, [], 1⟩ := by
  unfold mapA
  split
  · rfl
  split
  · rfl
  rename_i h1 h2
  rw [if_pos (by rcases h with h | h | h; (rw [h]; rfl); (exact absurd h1 (by simp at h; simp [h])); exact absurd h h2)]
  rcases h with h | h | h
  · rw [h]
  · exact absurd h1 (by simp at h; simp [h])
  · exact absurd h h2
theorem splA_no {l : Nat} {X : Nat → BitVec 64} {z : WayR} {F : List Int} {mid : Int} (h : z.e = 1) : splA l X z F mid = ⟨0, X, [], 1⟩ := by
  unfold splA
  rw [if_pos (by rw [h]; rfl), h]
theorem unmA_no {l : Nat} {X : Nat → BitVec 64} {z : WayR} {mid o : Int} (h : z.e = 1 ∨ numB o 15 = false) : unmA l X z mid o = ((0, X), dz, 1) := by
  unfold unmA
  split
  · rfl
  rename_i h1
  rw [mayE_note] at h1
  rcases h with h | h
  · rw [if_pos (by rw [h]; rfl), h]
  · exact absurd h h1
/-- A row that is written over is forgotten. -/
theorem spoilW_post {ft : List Nat} {w0 W w' : World} {k i n c s : Nat} {e0 : TypeId} {f : Option Addr} {xs : List Value} {x0 : Env → Bx} {rest : BL} {E : Env} {e : Ending} (hk : Keep ft w0 W) (hp : ∀ p ∈ (i, x0) :: rest, (p.2 E).Holds ft w0 W)
    (h : e = .returned (.tuple #[]) ∧ Keep (f.map (·.block)).toList W w') (h0 : x0 E = ownFx e0 s f n c xs := by rfl) :
    ∃ q, GPost ft w0 k (fun _ => .tuple #[]) ((i, x0) :: rest) [(i, fun _ => noBx)] [] E W e w' q := by
  obtain ⟨he, hkk⟩ := h
  refine GPost.fin (ft := (f.map (·.block)).toList) (fun _ => (0, none)) hk hp (fun x hx => ?_) (fun p hpp p' hp' hi => ?_) he ?_
  · simp only [Option.mem_toList] at hx
    exact ⟨(i, x0), List.mem_cons_self .., fp_of h0 hx, by simp⟩
  · obtain rfl := List.mem_singleton.1 hp'
    exact Or.inl rfl
  · have key : ∀ (n : Nat) (x : Bx), [noBx][n]? = some x → x = noBx := fun n x hx => by
      match n with
      | 0 => exact (Option.some.inj hx).symm
      | n + 1 => simp at hx
    refine ⟨hkk, fun n x hx => ?_, fun n m x y hx hy hnm c hc => ?_⟩
    · obtain rfl := key n x hx
      rfl
    · obtain rfl := key n x hx
      cases hc
theorem wpI_exN {P : Program} (hm : P.follows .mixedOrders = true) {n : Nat} (fn : Func) (k : List Itm) {a : Act} {w w0 : World} {R : Ending → World → Prop} {Q : Exit → Act → World → Prop} {ft : List Nat} (T0 : Sl) (h0 : List Bx) (hs : Hs)
    (hT : Has n T0 a) (hF : Fits ft w0 h0 w) (hh : hs.Ok n P fn ft w0 R (fun _ _ _ => False)) (hQr : ∀ a w, bodyPost P fn R .ret a w → Q .ret a w) (hQn : ∀ a w, bodyPost P fn R .normal a w → Q .normal a w)
    (hg : ∀ E : Sup, fstC (exRun n P fn true E 1000 k T0 h0 h0.length hs) = sndC (exRun n P fn true E 1000 k T0 h0 h0.length hs)) : wpI P Q k .normal a w :=
  exRun_sound hm (top := true) hQr (fun _ => hQn) (fun _ _ _ h => h.elim) 1000 k h0.length (fun _ => (0, none)) hs a w (fun E _ => ⟨T0, h0, hT, hF, Goods.of (hg E)⟩) hh
/-- A call of a function that has no results, whose text ends of itself. -/
theorem calls_exN {P : Program} (hm : P.follows .mixedOrders = true) {f : FuncId} {fn : Func} {c : Code} {args : Array Value} {w : World} {R : Ending → World → Prop} {ft : List Nat} (h0 : List Bx) (hs : Hs)
    (hf : P.funcs[f]? = some fn) (hb : fn.body = some c) (hF : Fits ft w h0 w) (hh : hs.Ok fn.ntmps P fn ft w R (fun e a w => match e with | .normal => bodyPost P fn R .normal a w | _ => False)) (hn : Nat.ble args.toList.length fn.ntmps = true)
    (hg : ∀ E : Sup, fstC (exRun fn.ntmps P fn true E 1000 [.code c] (args0 0 args.toList) h0 h0.length hs) = sndC (exRun fn.ntmps P fn true E 1000 [.code c] (args0 0 args.toList) h0 h0.length hs)) :
    Calls P f args w R := by
  refine calls_of_wp hf hb ?_
  refine exRun_sound hm (n := fn.ntmps) (top := true) (J := fun e a w => match e with | .normal => bodyPost P fn R .normal a w | _ => False) (fun a w h => h) (fun _ a w h => h) (fun e a w h => by cases e with | none => exact h | some _ => exact h.elim) 1000 [.code c] h0.length (fun _ => (0, none)) hs _ w (fun E _ => ⟨args0 0 args.toList, h0, ⟨rfl, ?_, fun k v hk => ?_⟩, hF, Goods.of (hg E)⟩) hh
  · have hn := Nat.le_of_ble_eq_true hn
    simp at hn ⊢
    omega
  · obtain ⟨_, h2⟩ := find_args0 _ _ _ _ hk
    simp only [Nat.sub_zero] at h2
    have hlt := (List.getElem?_eq_some_iff.1 h2).1
    rw [Array.getElem?_append_left (by simpa using hlt)]
    simpa using h2
structure SwX where
  j : Nat
  Y : Nat → BitVec 64
def SwX.I (f : Option Addr) (l c : Nat) (w0 : World) (x : SwX) (a : Act) (w : World) : Prop := (x.j ≤ l) ∧ Has Tryz.f59.ntmps [(0, .slice f l c), (2, .int .i64 x.j)] a ∧ Fits (f.map (·.block)).toList w0 [ownFx 75 1 f l c (wcells x.Y l)] w
theorem sw_loop_rest (f : Option Addr) (l c : Nat) {w0 W : World} {a : Act} {Q : Exit → Act → World → Prop} (hl : l ≤ 100000) (j : Nat) (Y : Nat → BitVec 64)
    (hT : Has Tryz.f59.ntmps [(0, .slice f l c), (2, .int .i64 j)] a) (hF : Fits (f.map (·.block)).toList w0 [ownFx 75 1 f l c (wcells Y l)] W) (hQr : ∀ a w, bodyPost Tryz.prog Tryz.f59 (fun e w' => e = .returned (.tuple #[]) ∧ Keep (f.map (·.block)).toList w0 w') .ret a w → Q .ret a w) (hQn : ∀ a w, bodyPost Tryz.prog Tryz.f59 (fun e w' => e = .returned (.tuple #[]) ∧ Keep (f.map (·.block)).toList w0 w') .normal a w → Q .normal a w) : wpI Tryz.prog Q (restAt Tryz.f59 0) (.exit 0) a W := by
  exact wpI_pop (k' := popD 0 (restAt Tryz.f59 0)) (by kernel_rfl) (wpI_exN mixedT Tryz.f59 (popD 0 (restAt Tryz.f59 0)) [(0, .slice f l c), (2, .int .i64 j)] [ownFx 75 1 f l c (wcells Y l)] (.r 4 [(2, .opc (.call ⟨.builtin .append, #[(.tmp 17), (.tmp 18)], #[22, 22]⟩) (fun E => [.slice f l c, .slice (some ⟨E.b 1, 0, none⟩) 1 1]) (fun E => .slice (E.f 2) (l + 1) (E.b 2)) [(0, (fun _ => ownFx 75 1 f l c (wcells Y l))), (1, (fun E => ⟨E.b 1, 0, 75, [.int .u64 5], .own⟩))] [(0, fun _ => noBx)] 2 [fun E => OwnP 75 1 (E.f 2) (l + 1) (E.b 2) (wcells Y l ++ [.int .u64 5])])] (.fin [] (fun _ => .tuple #[]) [])) hT hF (⟨fun E W ρ o ho hx hk hp => pushR_opc (z := .int .u64 0) (size := 1) (bytes := 8) 22 75 Tryz.underlying22 (by kernel_rfl) rfl (by decide) (by decide) ho 0 2 l 1 (wcells Y l) [.int .u64 5] _ rfl hx hk (hp.1 _ (List.mem_cons_self ..)) (own_lit (n := 1) (hp.1 _ (List.mem_cons_of_mem _ (List.mem_singleton.2 rfl))) rfl (by decide)) (fun u hu => by obtain rfl := List.mem_singleton.1 hu; rfl) (by omega), fun _ _ hk _ => ⟨rfl, hk⟩⟩) (R := (fun e w' => e = .returned (.tuple #[]) ∧ Keep (f.map (·.block)).toList w0 w')) hQr hQn (fun _ => by kernel_rfl))
set_option maxRecDepth 100000 in
theorem sw_loop (f : Option Addr) (l c : Nat) {w0 W : World} {a : Act} {Q : Exit → Act → World → Prop} (hl : l ≤ 100000) (x0 : SwX) (hI : SwX.I f l c w0 x0 a W) (hQr : ∀ a w, bodyPost Tryz.prog Tryz.f59 (fun e w' => e = .returned (.tuple #[]) ∧ Keep (f.map (·.block)).toList w0 w') .ret a w → Q .ret a w) (hQn : ∀ a w, bodyPost Tryz.prog Tryz.f59 (fun e w' => e = .returned (.tuple #[]) ∧ Keep (f.map (·.block)).toList w0 w') .normal a w → Q .normal a w) : wpI Tryz.prog Q (.code (nthLoop Tryz.f59 0) :: restAt Tryz.f59 0) .normal a W := by
  rw [show nthLoop Tryz.f59 0 = .loop (bodyOf (nthLoop Tryz.f59 0)) from by kernel_rfl]
  refine wp_lp (fun x a w => SwX.I f l c w0 x a w) (fun x => l - x.j) x0 hI fun x a w hI => ?_
  obtain ⟨j, Y⟩ := x
  obtain ⟨hj, hT, hF⟩ := hI
  simp only at hj hT hF
  by_cases hlt : j < l
  · have hd : decide ((j : Int) < l) = true := decide_eq_true (by omega)
    have hjw : IntKind.i64.wrap ((j : Int) + 1) = ((j + 1 : Nat) : Int) := (IntWalk.i64_in _ (by omega)).trans (by omega)
    have hxor : Value.int .u64 (bits .xor .u64 (u (Y j)) 21845) = .int .u64 (u (Y j ^^^ 21845#64)) := by rw [show (21845 : Int) = u 21845#64 from by decide, u_xor]
    exact wp_ex mixedT Tryz.f59 [(0, .slice f l c), (2, .int .i64 j)] [ownFx 75 1 f l c (wcells Y l)] (.r 1 [(3, .rw (fun _ => .bool (decide ((j : Int) < l))) (fun _ => .bool true))] (.r 3 [(4, .opc (.indexAddr 22 (.tmp 11) (.tmp 12)) (fun _ => [.slice f l c, .int .i64 j]) (fun _ => .pointer (some ⟨blkOf f, (j : Int).toNat * 1, none⟩)) [(0, (fun _ => ownFx 75 1 f l c (wcells Y l)))] [] 0 []), (5, .opc (.load 75 (.tmp 13)) (fun _ => [.pointer (some ⟨blkOf f, (j : Int).toNat * 1, none⟩)]) (fun _ => .int .u64 (u (Y j))) [(0, (fun _ => ownFx 75 1 f l c (wcells Y l)))] [] 0 []), (6, .rw (fun _ => .int .u64 (bits .xor .u64 (u (Y j)) 21845)) (fun _ => .int .u64 (u (Y j ^^^ 21845#64)))), (7, .opc (.indexAddr 22 (.tmp 9) (.tmp 10)) (fun _ => [.slice f l c, .int .i64 j]) (fun _ => .pointer (some ⟨blkOf f, (j : Int).toNat * 1, none⟩)) [(0, (fun _ => ownFx 75 1 f l c (wcells Y l)))] [] 0 []), (8, .sto (.store 75 (.tmp 16) (.tmp 15)) (fun _ => [.pointer (some ⟨blkOf f, (j : Int).toNat * 1, none⟩), .int .u64 (u (Y j ^^^ 21845#64))]) [(0, (fun _ => ownFx 75 1 f l c (wcells Y l)))] [(0, (fun _ => ownFx 75 1 f l c (wcells (upd Y j (Y j ^^^ 21845#64)) l)))])] (.r 2 [(1, .rw (fun _ => .int .i64 (IntKind.i64.wrap (j + 1))) (fun _ => .int .i64 ((j + 1 : Nat) : Int)))] (.out none (fun _ => [(0, .slice f l c), (2, .int .i64 ((j + 1 : Nat) : Int))]) [(0, (fun _ => ownFx 75 1 f l c (wcells (upd Y j (Y j ^^^ 21845#64)) l)))])))) hT hF (⟨fun _ => congrArg Value.bool hd, fun E W ρ o ho hx hk hp => ix_opc (N := 1) ho hx hk Tryz.underlying22 (by kernel_rfl) (hp.1 _ (List.mem_singleton.2 rfl)).2.2.1 (by omega) (by omega) rfl, fun E W ρ o ho hx hk hp => ld_opc ho hx hk Tryz.underlying75 rfl (hp.1 _ (List.mem_singleton.2 rfl)).2.2.1 (by omega) (by rw [show ((j : Int).toNat * 1) = j by omega]; exact wcells_get _ _ _ hlt), fun _ => hxor, fun E W ρ o ho hx hk hp => ix_opc (N := 1) ho hx hk Tryz.underlying22 (by kernel_rfl) (hp.1 _ (List.mem_singleton.2 rfl)).2.2.1 (by omega) (by omega) rfl, fun E W ρ o ho hx hk hp => stW_opc (X := Y) (j := j) (v := Y j ^^^ 21845#64) ho (hx.trans (by rw [show ((j : Int).toNat * 1) = j by omega])) hk (hp.1 _ (List.mem_singleton.2 rfl)) rfl rfl hlt, fun _ => by rw [hjw], fun E _ _ hT1 hF1 => ⟨⟨j + 1, (upd Y j (Y j ^^^ 21845#64))⟩, ⟨(show j + 1 ≤ l by omega), hT1, by exact hF1⟩, by (show l - (j + 1) < l - j; omega)⟩⟩) (R := (fun e w' => e = .returned (.tuple #[]) ∧ Keep (f.map (·.block)).toList w0 w')) (J := fun ze a' w' => match ze with | .normal => ∃ x' : SwX, SwX.I f l c w0 x' a' w' ∧ (l - x'.j) < (l - j) | ze => wpI Tryz.prog Q (restAt Tryz.f59 0) ze a' w') (fun _ _ h => wpI_ret (hQr _ _ h)) (fun e _ _ h => by cases e <;> exact h) (fun _ => by kernel_rfl)
  · have hd : decide ((j : Int) < l) = false := decide_eq_false (by omega)
    exact wp_ex mixedT Tryz.f59 [(0, .slice f l c), (2, .int .i64 j)] [ownFx 75 1 f l c (wcells Y l)] (.r 1 [(3, .rw (fun _ => .bool (decide ((j : Int) < l))) (fun _ => .bool false))] (.out (some 0) (fun _ => [(0, .slice f l c), (2, .int .i64 j)]) [(0, (fun _ => ownFx 75 1 f l c (wcells Y l)))])) hT hF (⟨fun _ => congrArg Value.bool hd, fun E a w hT1 hF1 => sw_loop_rest f l c hl j Y hT1 hF1 hQr hQn⟩) (R := (fun e w' => e = .returned (.tuple #[]) ∧ Keep (f.map (·.block)).toList w0 w')) (J := fun ze a' w' => match ze with | .normal => ∃ x' : SwX, SwX.I f l c w0 x' a' w' ∧ (l - x'.j) < (l - j) | ze => wpI Tryz.prog Q (restAt Tryz.f59 0) ze a' w') (fun _ _ h => wpI_ret (hQr _ _ h)) (fun e _ _ h => by cases e <;> exact h) (fun _ => by kernel_rfl)
theorem spoilW_any (f : Option Addr) (l c : Nat) (X : Nat → BitVec 64) (w : World) (hl : l ≤ 100000) (hF : Fits (f.map (·.block)).toList w [ownFx 75 1 f l c (wcells X l)] w) :
    Calls Tryz.prog 59 #[.slice f l c] w fun e w' => e = .returned (.tuple #[]) ∧ Keep (f.map (·.block)).toList w w' := by
  exact calls_exN mixedT [ownFx 75 1 f l c (wcells X l)] (.lp (restAt Tryz.f59 0) (nthLoop Tryz.f59 0) (fun _ => [(0, .slice f l c), (2, .int .i64 0)]) [(0, (fun _ => ownFx 75 1 f l c (wcells X l)))]) Tryz.func59 rfl hF (fun E a W hT hF Q hQr hQj => sw_loop f l c hl ⟨0, X⟩ ⟨Nat.zero_le _, hT, by exact hF⟩ hQr (fun a w h => hQj none a w h)) rfl (fun _ => by kernel_rfl)
end Go.Proofs.YtbhnjaajkolklaaGreat
