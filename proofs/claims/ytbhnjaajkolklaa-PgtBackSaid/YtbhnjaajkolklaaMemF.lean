/- Contracts: Zero of package mem and of the reference; the law's there; the reference's In. -/
import Derived.Test.YtbhnjaajkolklaaWa
import Derived.Lib.SliceRun
import Derived.BigFrame
set_option linter.all false
namespace Go.Proofs.Ytbhnjaajkolklaa
open Go.ChangeShapes Go.WideShapes Go.ChangeAt Go.RowKit Go.Deep

/-- Words from o on are noughts, n of them. -/
def zap (X : Nat → BitVec 64) (o n : Nat) : Nat → BitVec 64 := fun i => if o ≤ i ∧ i < o + n then 0#64 else X i
theorem zap_zero (X : Nat → BitVec 64) (o : Nat) : zap X o 0 = X := by
  funext i; unfold zap; rw [if_neg (by omega)]
theorem zap_front (X : Nat → BitVec 64) (o n : Nat) : zap (upd X o 0#64) (o + 1) n = zap X o (n + 1) := by
  funext i; unfold upd zap
  by_cases h : i = o
  · rw [if_neg (by omega), if_pos (show o ≤ i ∧ i < o + (n + 1) by omega)]; exact if_pos h
  · by_cases k : o + 1 ≤ i ∧ i < o + 1 + n
    · rw [if_pos k, if_pos (by omega)]
    · rw [if_neg k, if_neg (show ¬ (o ≤ i ∧ i < o + (n + 1)) by omega)]; exact if_neg h
/-- The frames of a row are noughts. -/
def zerV (X : Nat → BitVec 64) (N : Nat → Int) : Nat → Nat → BitVec 64
  | 0 => X
  | n + 1 => zap (zerV X N n) (N n * 8).toNat 8
theorem zerV_succ (X : Nat → BitVec 64) (N : Nat → Int) (n : Nat) : zerV X N (n + 1) = zap (zerV X N n) (N n * 8).toNat 8 := rfl
theorem OwnW.clear {base g l c : Nat} : ∀ (n o : Nat) (w : World) (X : Nat → BitVec 64), OwnW w base (.slice (some ⟨g, 0, none⟩) l c) l X → OwnW (w.setCells g o (List.replicate n (.int .u64 0))) base (.slice (some ⟨g, 0, none⟩) l c) l (zap X o n)
  | 0, _, _, _, h => by rw [zap_zero]; exact h
  | n + 1, o, _, _, h => by
    rw [← zap_front]
    exact OwnW.clear n (o + 1) _ _ (h.stored o 0#64)
theorem below_setCells {B b : Nat} {a : World} (hb : B ≤ b) : ∀ (vs : List Value) (o : Nat) (w : World), Below B a w → Below B a (w.setCells b o vs)
  | [], _, _, h => h
  | v :: r, o, _, h => below_setCells hb r (o + 1) _ (h.setCell (p := ⟨b, o, none⟩) hb v)
theorem zeroW (w : World) : (zeroValue 45).run Try.prog w = .ok (.int .u64 0) w := by kernel_rfl

theorem frame0_any (b l c : Nat) (k : Int) (w : World) (h0 : 0 ≤ k) (h1 : k * 8 + 8 ≤ l) (hl : l ≤ c) (hc : l ≤ 100000) :
    Calls Try.prog 48 #[.agg #[.slice (some ⟨b, 0, none⟩) l c], .int .i64 k] w fun e w' => e = .returned (.slice (some ⟨b, (k * 8).toNat, none⟩) 8 (c - (k * 8).toNat)) ∧ w' = w.alloc (.cells #[.slice (some ⟨b, 0, none⟩) l c] 101) := by
  have := frame_any b 0 l c k w h0 h1 hl hc
  rw [Nat.zero_add] at this
  exact this

set_option maxRecDepth 100000 in
theorem zero_ok (f g : Option Addr) (l c n d : Nat) (X : Nat → BitVec 64) (N : Nat → Int) (w : World) (hX : WordsAt w f l X) (hN : NumsAt w g n N) (hn : n ≤ 1000000000) (hM : okM l = true) (hA : allFm l N n) :
    Calls Try.prog 34 #[.agg #[.slice f l c], .slice g n d] w fun e w' => ∃ f' c', e = .returned (.tuple #[.agg #[.slice f' l c'], .int .i64 0]) ∧ OwnW w' w.heap.size (.slice f' l c') l (zerV X N n) ∧ Below w.heap.size w w' := by
  obtain ⟨l1, l2, l3⟩ := okM_true hM
  obtain ⟨b, o, rfl, hlt, hX'⟩ := hX.pos (by omega)
  clear hX' hlt
  obtain ⟨W, hW⟩ : ∃ W, W = (w.alloc (.cells #[.slice (some ⟨b, o, none⟩) l c] 24)).alloc (.cells #[.slice none 0 0] 24) := ⟨_, rfl⟩
  have hb1 : Below w.heap.size w W := by rw [hW]; exact bel_alloc (bel_alloc (Below.refl w.heap.size w) _) _
  have hs1 : W.heap.size = w.heap.size + 2 := by rw [hW]; simp
  have L0 : Loc W w.heap.size 0 (.slice (some ⟨b, o, none⟩) l c) := by rw [hW]; exact (Loc.new _ _ _ _ 0 _ rfl rfl).alloc _
  have L1 : Loc W (w.heap.size + 1) 0 (.slice none 0 0) := by rw [hW]; exact Loc.new _ _ _ _ 0 _ (by simp) rfl
  have HH := Lib.hid (hasAll_any (some ⟨b, o, none⟩) g l c n d N W (hN.below hb1) hn)
  have HX := Lib.hid (hX.below hb1)
  have HN := Lib.hid hN
  clear hN hX
  go_enter Try.func34, Try.ntmps34
  go_wp2_with fail
  rw [← hW]
  refine HH.out.mono ?_
  rintro e w1 ⟨⟨r, rfl, _, hr, _⟩, hb⟩
  obtain rfl := hr hM hA
  have c0 := (L0.below hb).cell
  have L1a := L1.below hb
  have HX1 := Lib.hid (HX.out.below hb)
  have hB1 := bel_trans hb1 hb
  have hs2 := hb.size
  clear hr hW hb L0 L1 HH HX hb1
  go_wp2_with fail
  refine (draft_any _ _ _ _ X _ (by omega) HX1.out).mono ?_
  rintro e w2 ⟨f2, c2, rfl, hO, hb2⟩
  obtain ⟨g2, c2', hv, hbg, hg2, hlc, _⟩ := hO.pos (by omega)
  simp at hv
  obtain ⟨rfl, rfl⟩ := hv
  have HB2 := Lib.hid (bel_trans hB1 hb2)
  have HO2 := Lib.hid (hO.mono (show w.heap.size ≤ _ by omega))
  have HL2 := Lib.hid (L1a.below hb2)
  clear hO hb2 hB1 L1a HX1 c0
  have hs3 := HB2.out.size
  have HB3 := Lib.hid (bel_alloc HB2.out (.cells #[.slice (some ⟨g2, 0, none⟩) l c2] 104))
  have HO3 := Lib.hid (HO2.out.below (bel_alloc (Below.refl _ _) (.cells #[.slice (some ⟨g2, 0, none⟩) l c2] 104)))
  have HL3 := Lib.hid (HL2.out.alloc (.cells #[.slice (some ⟨g2, 0, none⟩) l c2] 104))
  have HL4 := Lib.hid (Loc.new w2 #[.slice (some ⟨g2, 0, none⟩) l c2] 104 w2.heap.size 0 _ rfl rfl)
  clear HB2 HO2 HL2
  go_wp2
  go_loopw [22] (fun i wr => ∃ (k : Nat), k ≤ n ∧ i = .int .i64 k ∧ Below w.heap.size w wr ∧ Hid (Loc wr (w.heap.size + 1) 0 (.slice none 0 0)) ∧ Hid (Loc wr w2.heap.size 0 (.slice (some ⟨g2, 0, none⟩) l c2)) ∧ Hid (OwnW wr w.heap.size (.slice (some ⟨g2, 0, none⟩) l c2) l (zerV X N k))) (fun i _ => n - (intOf i).toNat)
  case atStart => exact ⟨0, Nat.zero_le _, rfl, HB3.out, HL3, HL4, HO3⟩
  case round =>
    obtain ⟨k, hk, rfl, hb, HL5, HL6, HO5⟩ := hrel
    by_cases hlt : k < n
    · obtain ⟨b', o', rfl, hc⟩ := HN.out k hlt
      have hc1 := keepc hb hc
      simp only at hc1
      have hc2 := HL6.out.cell
      obtain ⟨n0, n1⟩ := hA k hlt
      have HB5 := Lib.hid hb
      have hsz := hb.size
      have i1 : (0 : Int) ≤ (k : Int) := by omega
      have i2 : (k : Int) < (n : Int) := by omega
      have HZ := Lib.hid (zerV_succ X N k)
      generalize N k = nk at hc1 n0 n1 HZ
      clear hc hb
      have hcl : ∀ ty, (Builtin.clear_ #[22] ty #[.slice (some ⟨g2, (nk * 8).toNat, none⟩) 8 (c2 - (nk * 8).toNat)]).run Try.prog (wr.alloc (.cells #[.slice (some ⟨g2, 0, none⟩) l c2] 101)) = .ok (.tuple #[]) ((wr.alloc (.cells #[.slice (some ⟨g2, 0, none⟩) l c2] 101)).setCells g2 (nk * 8).toNat (List.replicate 8 (.int .u64 0))) := by
        have hO7 := HO5.out.below (bel_alloc (Below.refl _ _) (.cells #[.slice (some ⟨g2, 0, none⟩) l c2] 101))
        obtain ⟨g3, c3, hv, _, _, _, hcc⟩ := hO7.pos (by omega)
        simp at hv
        obtain ⟨rfl, rfl⟩ := hv
        intro ty
        exact Lib.run_clear_slice _ 22 45 ty (.int .u64 0) Try.underlying22 zeroW rfl rfl g2 (nk * 8).toNat 8 _ (by omega) (fun j hj => by rw [hcc _ (by omega)]; rfl) (fun j _ => hO7.frozen _)
      have HO7 := Lib.hid (OwnW.clear 8 (nk * 8).toNat _ _ (HO5.out.below (bel_alloc (Below.refl _ _) (.cells #[.slice (some ⟨g2, 0, none⟩) l c2] 101))))
      go_wp2_with (go_at_call 48; refine (frame0_any _ _ _ _ _ n0 (by omega) hlc (by omega)).mono ?_; rintro e w5 ⟨rfl, rfl⟩)
      go_roundw
      case rel =>
        refine ⟨k + 1, by omega, by go_num, below_setCells (by omega) _ _ _ (bel_alloc HB5.out _), ?_, ?_, ?_⟩
        · exact Loc.setCells g2 (by omega) _ _ _ (HL5.out.alloc _)
        · exact Loc.setCells g2 (by omega) _ _ _ (HL6.out.alloc _)
        · rw [HZ.out]; exact HO7.out
      case measure => simp [intOf]; omega
    · obtain rfl : k = n := by omega
      have hsz := hb.size
      have HB5 := Lib.hid hb
      obtain ⟨p5, q5⟩ := HL5.out
      obtain ⟨p6, q6⟩ := HL6.out
      have hz := (HL5.out.put (.slice (some ⟨g2, 0, none⟩) l c2)).cell
      have R1 : Hid (OwnW (wr.setCell ⟨w.heap.size + 1, 0, none⟩ (.slice (some ⟨g2, 0, none⟩) l c2)) w.heap.size (.slice (some ⟨g2, 0, none⟩) l c2) l (zerV X N k)) := by
        refine ⟨HO5.out.1, ?_⟩
        rcases HO5.out.2 with hn | ⟨g3, cap, cur, hv, hb3, hgg, rest⟩
        · exact .inl hn
        · simp only [Value.slice.injEq, Option.some.injEq, Addr.mk.injEq, and_true, true_and] at hv
          obtain ⟨rfl, rfl⟩ := hv
          exact .inr ⟨g2, c2, cur, rfl, hb3, (Below.heap_setCell wr ⟨w.heap.size + 1, 0, none⟩ _ g2 (by simp only; omega)).trans hgg, rest⟩
      clear hb
      go_wp2
      refine bodyPost_ret (v := .tuple #[.agg #[.slice (some ⟨g2, 0, none⟩) l c2], .int .i64 0]) (by simp [results, Try.results34, go_sem, hz]) rfl ?_
      exact ⟨_, _, rfl, R1.out, HB5.out.setCell (by simp only; omega) _⟩

end Go.Proofs.Ytbhnjaajkolklaa
