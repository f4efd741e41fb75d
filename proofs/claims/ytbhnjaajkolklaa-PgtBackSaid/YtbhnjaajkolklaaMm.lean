/- Stage 16's laws: words spoiled; what a call's answer may be; PgtAlls: contracts. Stage 16's laws: PgtAlls: contract. -/
import Derived.Test.YtbhnjaajkolklaaMk
set_option linter.all false
namespace Go.Proofs.Ytbhnjaajkolklaa
section
open Go.ChangeShapes Go.WideShapes Go.ChangeAt Go.RowKit Go.Deep

end
section
open Go.ChangeShapes Go.WideShapes Go.ChangeAt Go.RowKit Go.Deep

theorem EndAll.post {ft : List Nat} {w0 W w' : World} {k : Nat} {pre : BL} {E : Env} {e : Ending} {a : List (Int × Int) × Int} (h : EndAll W a e w') (hk : Keep ft w0 W) :
    ∃ q, GPost ft w0 k (fun E => .tuple #[.slice (E.f k) a.1.length (E.b k), .int .i64 a.2]) pre [] [fun E => OwnP KMm.t KMm.N (E.f k) a.1.length (E.b k) (rcells KMm a.1)] E W e w' q := by
  obtain ⟨f, c, he, h1, h2⟩ := h
  exact GPost.own1 hk h2 h1 (by rw [he, set_f, set_c])
theorem EndAllB.post {ft : List Nat} {w0 W w' : World} {k : Nat} {pre : BL} {E : Env} {e : Ending} {a : List (Int × Int) × Bool} (h : EndAllB W a e w') (hk : Keep ft w0 W) :
    ∃ q, GPost ft w0 k (fun E => .tuple #[.slice (E.f k) a.1.length (E.b k), .bool a.2]) pre [] [fun E => OwnP KMm.t KMm.N (E.f k) a.1.length (E.b k) (rcells KMm a.1)] E W e w' q := by
  obtain ⟨f, c, he, h1, h2⟩ := h
  exact GPost.own1 hk h2 h1 (by rw [he, set_f, set_c])
theorem Ok16.below {w W : World} {q : S16} (ok : Ok16 w q) (hk : Keep [] w W) : Ok16 W q := ⟨ok.X.keep0 hk, ok.lc, ok.l1, ok.F.keep0 hk, ok.n1, ok.nk, ok.k0, RowsAt.below (K := KAc) ok.L hk.below, ok.m1, ok.ms⟩
end
end Go.Proofs.Ytbhnjaajkolklaa
