/- The engine: a struct that holds a row of numbers: what a call leaves that turns both. -/
import Derived.Test.YtbhnjaajkolklaaEt
import Derived.Test.YtbhnjaajkolklaaSt
set_option linter.all false
namespace Go.Proofs.Ytbhnjaajkolklaa
open Go.ChangeShapes Go.WideShapes Go.ChangeAt Go.RowKit Go.Deep

def RowEnd (ft : List Nat) (W : World) (b : Nat) (t : TypeId) (mk : Value → List Value) (v : Value) (R : List Int) (e : Ending) (w' : World) : Prop :=
  ∃ f c, e = .returned v ∧ Fits ft W [⟨b, 0, t, mk (.slice f R.length c), .own⟩, ownFx 3 1 f R.length c (icells R)] w'
theorem Fits.gap1 {ft : List Nat} {w1 w2 : World} {x y : Bx} (H : Fits ft w1 [x, y] w2) : Fits ft w1 [x, noBx, y] w2 := by
  have key : ∀ (i : Nat) (z : Bx), [x, noBx, y][i]? = some z → z = noBx ∨ ∃ i', [x, y][i']? = some z ∧ i = (if i' = 0 then 0 else i' + 1) := fun i z hz => by
    rcases i with _ | _ | _ | i
    · exact Or.inr ⟨0, hz, rfl⟩
    · exact Or.inl (Option.some.inj hz).symm
    · exact Or.inr ⟨1, hz, rfl⟩
    · simp at hz
  refine ⟨H.keep, fun i z hz => ?_, fun i j z u hz hu hij c hzc huc => ?_⟩
  · rcases key i z hz with rfl | ⟨i', h, _⟩
    · rfl
    · exact H.all i' z h
  · rcases key i z hz with rfl | ⟨i', h, hi⟩
    · cases hzc
    · rcases key j u hu with rfl | ⟨j', h', hj⟩
      · cases huc
      · exact H.ne i' j' z u h h' (fun e => hij (by rw [hi, hj, e])) c hzc huc
theorem Fits.nilrow {ft : List Nat} {w0 w : World} {h : List Bx} (H : Fits ft w0 h w) (t : TypeId) (s : Nat) : Fits ft w0 (h ++ [ownFx t s none 0 0 []]) w := by
  have key : ∀ {i : Nat} {x : Bx}, (h ++ [ownFx t s none 0 0 []])[i]? = some x → h[i]? = some x ∨ x = ownFx t s none 0 0 [] := fun {i x} hi => by
    rw [List.getElem?_append] at hi
    split at hi
    · exact Or.inl hi
    · have hi' : i - h.length = 0 := by
        have := (List.getElem?_eq_some_iff.1 hi).1
        simpa using this
      rw [hi'] at hi
      exact Or.inr (by simpa using hi.symm)
  refine ⟨H.keep, fun i x hi => ?_, fun i j x y hi hj hij c hx hy => ?_⟩
  · rcases key hi with h | rfl
    · exact H.all i x h
    · exact ⟨rfl, (fun _ h => nomatch h), World.ownsRow_nil _ _ _ _, OwnP.local _ _ _ _ _ _⟩
  · rcases key hi with h1 | rfl
    · rcases key hj with h2 | rfl
      · exact H.ne i j x y h1 h2 hij c hx hy
      · cases hy
    · cases hx
theorem RowEnd.post {ft0 : List Nat} {w0 W w' : World} {k : Nat} {E : Env} {e : Ending} {b iW iR : Nat} {t : TypeId} {cs : List Value} {fR : Option Addr} {nR cR : Nat} {xsR : List Value} {xW xR xW' : Env → Bx} {gR : Env → FV} {mk : Value → List Value} {v : Value} {Rs : List Int} {rest : BL}
    (hk : Keep ft0 w0 W) (hp : ∀ p ∈ (iW, xW) :: (iR, xR) :: rest, (p.2 E).Holds ft0 w0 W) (h : RowEnd (b :: (fR.map (·.block)).toList) W b t mk v Rs e w')
    (hd : iW ≠ iR := by decide) (hr : ∀ p ∈ rest, p.1 ≠ iW := by simp) (hW : xW E = ⟨b, 0, t, cs, .own⟩ := by rfl) (hR : xR E = ownFx 3 1 fR nR cR xsR := by rfl)
    (hW' : ∀ q, xW' (envN [gR] E k q) = ⟨b, 0, t, mk (.slice (q k).2 Rs.length (q k).1), .own⟩ := by exact fun _ => rfl)
    (hR' : ∀ q, gR (envN [gR] E k q) = OwnP 3 1 (q k).2 Rs.length (q k).1 (icells Rs) := by exact fun _ => rfl) :
    ∃ q, GPost ft0 w0 k (fun _ => v) ((iW, xW) :: (iR, xR) :: rest) [(iW, xW'), (iR, fun _ => noBx)] [gR] E W e w' q := by
  obtain ⟨aR, kR, he, hF⟩ := h
  have hW' := hW' (fun _ => (kR, aR))
  have hR' := hR' (fun _ => (kR, aR))
  refine GPost.fin (ft := b :: (fR.map (·.block)).toList) (fun _ => (kR, aR)) hk hp (fun x hx => ?_) (fun p hpp p' hp' hi => ?_) he ?_
  · simp only [List.mem_cons, Option.mem_toList] at hx
    rcases hx with rfl | hx
    · exact ⟨(iW, xW), by simp, fp_of hW rfl, by simp⟩
    · exact ⟨(iR, xR), by simp, fp_of hR hx, by simp⟩
  · simp only [List.mem_cons, List.not_mem_nil, or_false] at hpp hp'
    rcases hp' with rfl | rfl
    · rcases hpp with rfl | rfl | hpp
      · exact Or.inr ((congrArg Bx.fp hW').trans (congrArg Bx.fp hW).symm)
      · exact absurd hi hd
      · exact absurd hi.symm (hr _ hpp)
    · exact Or.inl rfl
  · show Fits (b :: (fR.map (·.block)).toList) W [xW' (envN [gR] E k fun _ => (kR, aR)), noBx, (gR (envN [gR] E k fun _ => (kR, aR))).bx aR] w'
    rw [hW', hR']
    exact hF.gap1
/-- The same, of a struct whose row was nil. -/
theorem RowEnd.post0 {ft0 : List Nat} {w0 W w' : World} {k : Nat} {E : Env} {e : Ending} {b iW : Nat} {t : TypeId} {cs : List Value} {xW xW' : Env → Bx} {gR : Env → FV} {mk : Value → List Value} {v : Value} {Rs : List Int}
    (hk : Keep ft0 w0 W) (hp : ∀ p ∈ [(iW, xW)], (p.2 E).Holds ft0 w0 W) (h : RowEnd [b] W b t mk v Rs e w') (hW : xW E = ⟨b, 0, t, cs, .own⟩ := by rfl)
    (hW' : ∀ q, xW' (envN [gR] E k q) = ⟨b, 0, t, mk (.slice (q k).2 Rs.length (q k).1), .own⟩ := by exact fun _ => rfl)
    (hR' : ∀ q, gR (envN [gR] E k q) = OwnP 3 1 (q k).2 Rs.length (q k).1 (icells Rs) := by exact fun _ => rfl) :
    ∃ q, GPost ft0 w0 k (fun _ => v) [(iW, xW)] [(iW, xW')] [gR] E W e w' q := by
  obtain ⟨aR, kR, he, hF⟩ := h
  have hW' := hW' (fun _ => (kR, aR))
  have hR' := hR' (fun _ => (kR, aR))
  refine GPost.fin (ft := [b]) (fun _ => (kR, aR)) hk hp (fun x hx => ?_) (fun p hpp p' hp' hi => ?_) he ?_
  · obtain rfl := List.mem_singleton.1 hx
    exact ⟨(iW, xW), by simp, fp_of hW rfl, by simp⟩
  · obtain rfl := List.mem_singleton.1 hpp
    obtain rfl := List.mem_singleton.1 hp'
    exact Or.inr ((congrArg Bx.fp hW').trans (congrArg Bx.fp hW).symm)
  · show Fits [b] W [xW' (envN [gR] E k fun _ => (kR, aR)), (gR (envN [gR] E k fun _ => (kR, aR))).bx aR] w'
    rw [hW', hR']
    exact hF
/-- append of one number. -/
theorem pushN_opc {ft : List Nat} {w0 W : World} {E : Env} {ρ : Operand → Value} {o : Oper} {s x : Operand} (ho : o.op = .call ⟨.builtin .append, #[s, x], #[25, 25]⟩) {i k : Nat} {L : List Int} {n : Int} {c d b : Nat} {f : Option Addr} {x0 : Env → Bx} {bx : Nat × (Env → Bx)} (hx : [ρ s, ρ x] = [.slice f L.length c, .slice (some ⟨b, 0, none⟩) 1 d]) (hk : Keep ft w0 W)
    (hp : ∀ p ∈ [(i, x0), bx], (p.2 E).Holds ft w0 W) (hbx : bx.2 E = ⟨b, 0, 3, [.int .i64 n], .own⟩) (hlen : L.length + 1 ≤ 1000000) (h0 : x0 E = ownFx 3 1 f L.length c (icells L) := by rfl) :
    ∃ r q w', (execOp ρ o).run Try.prog W = .ok (.value r) w' ∧ GPost ft w0 k (fun E => .slice (E.f k) (L ++ [n]).length (E.b k)) [(i, x0), bx] [(i, fun _ => noBx)] [fun E => OwnP 3 1 (E.f k) (L ++ [n]).length (E.b k) (icells (L ++ [n]))] E W (.returned r) w' q := by
  have hbox := hp bx (List.mem_cons_of_mem _ (List.mem_singleton.2 rfl))
  have hrow : (x0 E).Holds ft w0 W := hp (i, x0) (List.mem_cons_self ..)
  have hown := hrow
  rw [h0] at hown
  rw [hbx] at hbox
  simp only [List.cons.injEq, and_true] at hx
  rw [icells_append, List.length_append]
  obtain ⟨f', c', w', hr, hown', hg, hat⟩ := run_append_at (P := Try.prog) (W := W) 25 o.type 3 (z := .int .i64 0) (size := 1) (bytes := 8) Try.underlying25 (by kernel_rfl) rfl (by decide) (by decide) hown.2.2.1 (a := ⟨b, 0, none⟩) (m := 1) (d := d) (news := [.int .i64 n]) rfl (fun j u hj => by
    have hB : BoxAt W b #[.int .i64 n] 3 := ⟨hbox.2.2⟩
    rw [add_none, Nat.zero_add]
    exact hB.get j u (by simpa using hj)) (fun u hu => by obtain rfl := List.mem_singleton.1 hu; rfl) hlen (by decide)
  obtain ⟨q, hq⟩ := GPost.grown (k := k) (v := fun E => .slice (E.f k) (L.length + 1) (E.b k)) (rest := [bx]) (e := .returned (.slice f' (L.length + 1) c')) x0 h0 hk hrow hown' hg hat (by rw [set_f, set_c])
  refine ⟨.slice f' (L.length + 1) c', q, w', ?_, hq⟩
  unfold execOp
  simp only [ho, resolve, invoke, builtin, Sem.run_bind, Sem.run_pure, Result.andThen_ok, List.map_toArray, List.map_cons, List.map_nil, hx.1, hx.2, hr]
end Go.Proofs.Ytbhnjaajkolklaa
