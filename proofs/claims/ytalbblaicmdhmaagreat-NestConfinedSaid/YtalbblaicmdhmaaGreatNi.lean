/- Two stages plainly: Trans; rows of numbers that are appended. -/
import Derived.Test.YtalbblaicmdhmaaGreatNa
set_option linter.all false
namespace Go.Proofs.YtalbblaicmdhmaaGreat
open Go.ChangeShapes Go.WideShapes Go.ChangeAt Go.RowKit Go.Deep

/-- Numbers, as rows of one cell. -/
def KI : RowK Int where
  ts := 25
  t := 3
  N := 1
  B := 8
  z := .int .i64 0
  V := fun a => #[.int .i64 a]
  pos := by decide
  small := by decide
  size := fun _ => rfl
  one := fun q v hv => by
    simp only [List.mem_cons, List.not_mem_nil, or_false] at hv
    subst hv
    rfl
  under := Tryz.underlying25
  info := by kernel_rfl
  zs := rfl
theorem rcells_int (L : List Int) : rcells KI L = icells L := by
  induction L with
  | nil => rfl
  | cons x L ih =>
    show (KI.V x).toList ++ rcells KI L = _
    rw [ih]
    rfl
theorem own_int {w : World} {base : Nat} {v : Value} {L : List Int} : OwnI w base v L ↔ OwnR KI w base v L := by
  unfold OwnI OwnR
  rw [rcells_int]
  exact Iff.rfl
/-- 'append(s, l...)' of a row of the call's own. -/
theorem wpList_rowI {w : World} {ops : Array Oper} {rest : List Oper} {o : Oper} {a : Act} {QQ : Exit → Act → World → Prop} (hgd : o.guard = none) (s x : Operand)
    (ho : o.op = .call { callee := .builtin .append, args := #[s, x], argTypes := #[25, 25] })
    (base b1 n m : Nat) (v y : Value) (L M : List Int) (hs : a.eval s = v) (hown : OwnI w base v L) (hn : n = L.length)
    (hx : a.eval x = y) (hy : OwnI w b1 y M) (hm : m = M.length) (hk : n + m ≤ 100000) (hbase : base ≤ w.heap.size)
    (h : ∀ f' c' w', OwnI w' base (.slice f' (n + m) c') (L ++ M) → w.grownBy w' v.ownBlock → wpList Tryz.prog ops QQ rest (a.put o.dst (.slice f' (n + m) c')) w') : wpList Tryz.prog ops QQ (o :: rest) a w := by
  subst hn hm
  obtain ⟨f, c, rfl, hr, hf⟩ := (own_int.1 hy).form
  exact wpList_rowR (K := KI) hgd s x ho base v L M hs (own_int.1 hown) f M.length c hx rfl hr hf hk hbase (fun f' c' w' h1 h2 _ => h f' c' w' (own_int.2 h1) h2)
/-- The same of one number, with the length by name. -/
theorem wpList_pushIn {w : World} {ops : Array Oper} {rest : List Oper} {o : Oper} {a : Act} {QQ : Exit → Act → World → Prop} (hgd : o.guard = none) (s x : Operand)
    (ho : o.op = .call { callee := .builtin .append, args := #[s, x], argTypes := #[25, 25] })
    (base n : Nat) (v : Value) (L : List Int) (hs : a.eval s = v) (hown : OwnI w base v L) (hn : n = L.length)
    (b c : Nat) (y : Int) (hx : a.eval x = .slice (some ⟨b, 0, none⟩) 1 c) (hy : w.cell? ⟨b, 0, none⟩ = some (.int .i64 y)) (hk : n ≤ 100000) (hbase : base ≤ w.heap.size)
    (h : ∀ f' c' w', OwnI w' base (.slice f' (n + 1) c') (L ++ [y]) → w.grownBy w' v.ownBlock → wpList Tryz.prog ops QQ rest (a.put o.dst (.slice f' (n + 1) c')) w') : wpList Tryz.prog ops QQ (o :: rest) a w := by
  subst hn
  refine wpList_pushR (K := KI) hgd s x ho base v L hs (own_int.1 hown) b c y hx ?_ hk hbase (fun f' c' w' h1 h2 => h f' c' w' (own_int.2 h1) h2)
  intro i hi
  have : i = 0 := by have : i < 1 := hi; omega
  subst this
  exact hy
/-- What both stages make of a page, from a table of stage 1 on: M is stage 2, T tells stage 1's descriptors. -/
def transS (M : Int → Int → Hit × Flt × List Int) (T : Int → Int → Dsc) (pg acc : Int) : Nat → Int → Int → List Int → Hit × Flt × List Int
  | 0, _, _, R => (hit0, flt0, R)
  | n + 1, lv, mid, R =>
    if (M mid 0).2.1.k ≠ 0 then (hit0, ⟨(M mid 0).2.1.k, (M mid 0).2.1.st, (M mid 0).2.1.lv, true, (M mid 0).2.1.p⟩, R ++ (M mid 0).2.2)
    else if (T lv (M mid 0).1.f).k = 1 then transS M T pg acc n (lv + 1) (T lv (M mid 0).1.f).f (R ++ (M mid 0).2.2 ++ [(M mid 0).1.f])
    else if (T lv (M mid 0).1.f).k = 0 then (hit0, ⟨2, 1, lv, false, pg⟩, R ++ (M mid 0).2.2 ++ [(M mid 0).1.f])
    else if (flagA (T lv (M mid 0).1.f).at' acc 1 lv pg).k ≠ 0 then (hit0, flagA (T lv (M mid 0).1.f).at' acc 1 lv pg, R ++ (M mid 0).2.2 ++ [(M mid 0).1.f])
    else if (M ((T lv (M mid 0).1.f).f + pg % cov lv) acc).2.1.k ≠ 0 then (hit0, (M ((T lv (M mid 0).1.f).f + pg % cov lv) acc).2.1, R ++ (M mid 0).2.2 ++ [(M mid 0).1.f] ++ (M ((T lv (M mid 0).1.f).f + pg % cov lv) acc).2.2)
    else (⟨(M ((T lv (M mid 0).1.f).f + pg % cov lv) acc).1.f, (M ((T lv (M mid 0).1.f).f + pg % cov lv) acc).1.m, bothL [(T lv (M mid 0).1.f).at', (M ((T lv (M mid 0).1.f).f + pg % cov lv) acc).1.t], lv⟩,
      (M ((T lv (M mid 0).1.f).f + pg % cov lv) acc).2.1, R ++ (M mid 0).2.2 ++ [(M mid 0).1.f] ++ (M ((T lv (M mid 0).1.f).f + pg % cov lv) acc).2.2)
def transD (l : Nat) (X : Nat → BitVec 64) (on1 : Bool) (of1 : Int) (on2 : Bool) (tf pg acc : Int) : Hit × Flt × List Int :=
  if on1 = false then (if (midD l X on2 tf pg acc).2.1.k = 0 then (⟨(midD l X on2 tf pg acc).1.f, (midD l X on2 tf pg acc).1.m, bothL [(midD l X on2 tf pg acc).1.t], 3⟩, (midD l X on2 tf pg acc).2.1, (midD l X on2 tf pg acc).2.2) else midD l X on2 tf pg acc)
  else transS (fun m a => midD l X on2 tf m a) (fun lv f => tblD X 1 lv f pg) pg acc 4 0 of1 []
section
variable {M : Int → Int → Hit × Flt × List Int} {T : Int → Int → Dsc} {pg acc : Int} {n : Nat} {lv mid : Int} {R : List Int} {a b : Hit × Flt × List Int} {d : Dsc}
theorem transS_walk (ha : M mid 0 = a) (hk : a.2.1.k ≠ 0) : transS M T pg acc (n + 1) lv mid R = (hit0, ⟨a.2.1.k, a.2.1.st, a.2.1.lv, true, a.2.1.p⟩, R ++ a.2.2) := by
  subst ha; rw [transS, if_pos hk]
theorem transS_table (ha : M mid 0 = a) (hk : a.2.1.k = 0) (hd : T lv a.1.f = d) (h1 : d.k = 1) : transS M T pg acc (n + 1) lv mid R = transS M T pg acc n (lv + 1) d.f (R ++ a.2.2 ++ [a.1.f]) := by
  subst ha hd; rw [transS, if_neg (fun h => h hk), if_pos h1]
theorem transS_none (ha : M mid 0 = a) (hk : a.2.1.k = 0) (hd : T lv a.1.f = d) (h1 : d.k = 0) : transS M T pg acc (n + 1) lv mid R = (hit0, ⟨2, 1, lv, false, pg⟩, R ++ a.2.2 ++ [a.1.f]) := by
  subst ha hd; rw [transS, if_neg (fun h => h hk), if_neg (by omega), if_pos h1]
theorem transS_flag (ha : M mid 0 = a) (hk : a.2.1.k = 0) (hd : T lv a.1.f = d) (h1 : d.k = 2) (hg : (flagA d.at' acc 1 lv pg).k ≠ 0) : transS M T pg acc (n + 1) lv mid R = (hit0, flagA d.at' acc 1 lv pg, R ++ a.2.2 ++ [a.1.f]) := by
  subst ha hd; rw [transS, if_neg (fun h => h hk), if_neg (by omega), if_neg (by omega), if_pos hg]
theorem transS_far (ha : M mid 0 = a) (hk : a.2.1.k = 0) (hd : T lv a.1.f = d) (h1 : d.k = 2) (hg : (flagA d.at' acc 1 lv pg).k = 0) (hb : M (d.f + pg % cov lv) acc = b) (hbk : b.2.1.k ≠ 0) : transS M T pg acc (n + 1) lv mid R = (hit0, b.2.1, R ++ a.2.2 ++ [a.1.f] ++ b.2.2) := by
  subst ha hd hb; rw [transS, if_neg (fun h => h hk), if_neg (by omega), if_neg (by omega), if_neg (fun h => h hg), if_pos hbk]
theorem transS_hit (ha : M mid 0 = a) (hk : a.2.1.k = 0) (hd : T lv a.1.f = d) (h1 : d.k = 2) (hg : (flagA d.at' acc 1 lv pg).k = 0) (hb : M (d.f + pg % cov lv) acc = b) (hbk : b.2.1.k = 0) : transS M T pg acc (n + 1) lv mid R = (⟨b.1.f, b.1.m, bothL [d.at', b.1.t], lv⟩, b.2.1, R ++ a.2.2 ++ [a.1.f] ++ b.2.2) := by
  subst ha hd hb; rw [transS, if_neg (fun h => h hk), if_neg (by omega), if_neg (by omega), if_neg (fun h => h hg), if_neg (fun h => h hbk)]
end
/-- A leaf's pages are pages. -/
theorem tbl_in (X : Nat → BitVec 64) (st lv fr pg : Int) (h : (tblD X st lv fr pg).k = 2) : (tblD X st lv fr pg).f + pg % cov lv ≤ 4095 := by
  have hk := of_cases st lv (X (fr * 8 + idxI lv pg).toNat)
  have hd : tblD X st lv fr pg = ofD st lv (X (fr * 8 + idxI lv pg).toNat) := rfl
  rw [hd] at h ⊢
  generalize ofD st lv (X (fr * 8 + idxI lv pg).toNat) = d at *
  rcases hk with hk | ⟨hk, _⟩
  · rw [hk] at h; cases h
  · unfold mayD at hk
    rw [if_neg (by omega), if_neg (by omega), if_pos h] at hk
    unfold leafD at hk
    simp only [Bool.and_eq_true, numB_iff, decide_eq_true_eq] at hk
    obtain ⟨_, _, ⟨f0, f1⟩, hm, _⟩ := hk
    rw [Int.tmod_eq_emod_of_nonneg f0] at hm
    have hc : cov lv = 512 ∨ cov lv = 64 ∨ cov lv = 8 ∨ cov lv = 1 := by
      unfold cov
      split <;> (try split) <;> (try split) <;> simp
    rcases hc with hc | hc | hc | hc <;> rw [hc] at hm ⊢ <;> omega
/-- What stage 2 tells: a frame that is there, or a fault; few tables, all in memory. -/
theorem mid_cases (l : Nat) (X : Nat → BitVec 64) (on : Bool) (tf mid acc : Int) (t0 : 0 ≤ tf) (m0 : 0 ≤ mid) : (midD l X on tf mid acc).2.2.length ≤ 4 ∧ (∀ x ∈ (midD l X on tf mid acc).2.2, 0 ≤ x ∧ x < (l : Int) / 8) ∧
    (((midD l X on tf mid acc).2.1 = flt0 ∧ 0 ≤ (midD l X on tf mid acc).1.f ∧ (midD l X on tf mid acc).1.f < (l : Int) / 8) ∨ ((midD l X on tf mid acc).2.1.k ≠ 0 ∧ (midD l X on tf mid acc).1 = hit0)) := by
  unfold midD
  cases on
  · rw [if_pos rfl]
    by_cases h : (l : Int) / 8 ≤ mid
    · rw [if_pos h]
      exact ⟨by simp, by simp, .inr ⟨by simp, rfl⟩⟩
    · rw [if_neg h]
      exact ⟨by simp, by simp, .inl ⟨rfl, m0, by simp only; omega⟩⟩
  · rw [if_neg (by decide)]
    have hw := walk_cases l X 2 tf mid t0 m0
    generalize walkD l X 2 tf mid = q at *
    obtain ⟨h1, h2, h3⟩ := hw
    rcases h3 with ⟨h3, _, h4, h5⟩ | ⟨h3, h4, _⟩
    · rw [if_pos (by rw [h3]; rfl)]
      split
      · exact ⟨h1, h2, .inl ⟨rfl, h4, h5⟩⟩
      · rename_i hg
        exact ⟨h1, h2, .inr ⟨hg, rfl⟩⟩
    · rw [if_neg h3]
      exact ⟨h1, h2, .inr ⟨h3, rfl⟩⟩
end Go.Proofs.YtalbblaicmdhmaaGreat
