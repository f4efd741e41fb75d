/- Contracts: bulwarkref0.CopyWords, EqWords; bulwarklaw0.Words; slices.Clone of words. Contracts: CopyMem, EqMem of the reference; draftOf, frame, allows, hasAll of package mem; the law's there. -/
import Derived.Test.YtbhnjaajkolklaaGreatOwn
import Derived.Test.YtbhnjaajkolklaaGreatMemA
set_option linter.all false
namespace Go.Proofs.YtbhnjaajkolklaaGreat
section
open Go.ChangeShapes Go.WideShapes Go.ChangeAt Go.RowKit Go.Deep

set_option maxRecDepth 100000 in
theorem copyW_any (f : Option Addr) (l c : Nat) (X : Nat → BitVec 64) (w : World) (hl : l ≤ 100000) (h : WordsAt w f l X) :
    Calls Tryz.prog 20 #[.slice f l c] w fun e w' => ∃ f' c', e = .returned (.slice f' l c') ∧ OwnW w' w.heap.size (.slice f' l c') l X ∧ Below w.heap.size w w' := by
  have HX := Lib.hid h
  clear h
  go_enter Tryz.func20, Tryz.ntmps20
  go_wp2
  go_loopw [3, 4] (fun v i wr => ∃ (k : Nat) (f' : Option Addr) (c' : Nat), k ≤ l ∧ i = .int .i64 k ∧ v = .slice f' k c' ∧ Below w.heap.size w wr ∧ Hid (OwnW wr w.heap.size (.slice f' k c') k X)) (fun _ i _ => l - (intOf i).toNat)
  case atStart => exact ⟨0, none, 0, Nat.zero_le _, rfl, rfl, Below.refl _ _, OwnW.nil _ _ _⟩
  case round =>
    obtain ⟨k, f', c', hk, rfl, rfl, hb, HO⟩ := hrel
    by_cases hlt : k < l
    · obtain ⟨b, o, rfl, hc⟩ := HX.out k hlt
      have hc' := keepc hb hc
      have HB := Lib.hid hb
      have i1 : (0 : Int) ≤ (k : Int) := by omega
      have i2 : (k : Int) < (l : Int) := by omega
      have HS : Hid (w.heap.size ≤ (wr.alloc (.cells #[.int .u64 (u (X k))] 75)).heap.size) := by
        have := hb.size
        show _ ≤ _
        simp
        omega
      have HO1 : Hid (OwnW (wr.alloc (.cells #[.int .u64 (u (X k))] 75)) w.heap.size (.slice f' k c') k X) := HO.out.below (bel_alloc (Below.refl _ _) _)
      have HY : Hid ((wr.alloc (.cells #[.int .u64 (u (X k))] 75)).cell? ⟨wr.heap.size, 0, none⟩ = some (.int .u64 (u (X k)))) := cell_new wr _ _ 0
      have HB1 : Hid (Below w.heap.size w (wr.alloc (.cells #[.int .u64 (u (X k))] 75))) := bel_alloc hb _
      clear hb HO hc
      go_wp2_with (at_builtin; refine wpList_pushW rfl _ _ rfl w.heap.size _ k X rfl HO1.out wr.heap.size 1 (X k) rfl HY.out (by omega) HS.out ?_; intro f2 c2 w2 hO2 hB2)
      go_roundw
      case rel => exact ⟨k + 1, f2, c2, by omega, by go_num, rfl, HB1.out.trans hB2, by rw [upd_self] at hO2; exact hO2⟩
      case measure => simp [intOf]; omega
    · obtain rfl : k = l := by omega
      go_wp2
      go_ret
      exact ⟨f', c', rfl, HO.out, hb⟩

set_option maxRecDepth 100000 in
theorem eqW_any (f g : Option Addr) (l c d : Nat) (X : Nat → BitVec 64) (w : World) (hl : l ≤ 100000) (h1 : WordsAt w f l X) (h2 : WordsAt w g l X) :
    Calls Tryz.prog 78 #[.slice f l c, .slice g l d] w fun e w' => e = .returned (.bool true) ∧ ∃ m, w' = w.drewN m := by
  have H1 := Lib.hid h1
  have H2 := Lib.hid h2
  clear h1 h2
  go_enter Tryz.func78, Tryz.ntmps78
  go_wp2
  go_loopw [5] (fun i wr => ∃ (k m : Nat), k ≤ l ∧ i = .int .i64 k ∧ wr = w.drewN m) (fun i _ => l - (intOf i).toNat)
  case atStart => exact ⟨0, 0, Nat.zero_le _, rfl, rfl⟩
  case round =>
    obtain ⟨k, m, hk, rfl, rfl⟩ := hrel
    by_cases hlt : k < l
    · obtain ⟨b, o, rfl, hc⟩ := H1.out k hlt
      obtain ⟨b', o', rfl, hc'⟩ := H2.out k hlt
      have i1 : (0 : Int) ≤ (k : Int) := by omega
      have i2 : (k : Int) < (l : Int) := by omega
      go_wp2_with fail
      go_quiet (fail)
      go_wp2
      go_roundw
      case rel => exact ⟨k + 1, m + _, by omega, by go_num, rfl⟩
      case measure => simp [intOf]; omega
    · go_wp2
      go_ret
      exact ⟨rfl, _, rfl⟩

set_option maxRecDepth 100000 in
theorem clone_any (b o l c : Nat) (X : Nat → BitVec 64) (w : World) (hl : l ≤ 100000) (h : WordsAt w (some ⟨b, o, none⟩) l X) :
    Calls Tryz.prog 110 #[.slice (some ⟨b, o, none⟩) l c] w fun e w' => ∃ f' c', e = .returned (.slice f' l c') ∧ OwnW w' w.heap.size (.slice f' l c') l X ∧ Below w.heap.size w w' := by
  have O1 : Hid ((w.alloc (.cells #[] 75)).ownsRow w.heap.size 75 1 (.slice (some ⟨w.heap.size, 0, none⟩) 0 0) 0 []) :=
    World.ownsRow_made (base := w.heap.size) (e := 75) (size := 1) w #[] 0 (Nat.le_refl _) (by unfold maxLen; omega) rfl
  have hb := bel_alloc (Below.refl w.heap.size w) (.cells #[] 75)
  have O2 := Lib.hid (h.below hb)
  have O3 := Lib.hid hb.size
  have O4 := Lib.hid hb
  clear h hb
  have he : ∀ w : World, (binOp .eql 22 (.slice (some ⟨b, o, none⟩) l c) (.slice none 0 0)).run Tryz.prog w = .ok (.bool false) w := fun _ => rfl
  go_enter Tryz.func110, Tryz.ntmps110
  go_wp2_with (at_builtin; refine wpList_cloneW rfl _ _ rfl w.heap.size w.heap.size 0 rfl O1.out _ _ _ X rfl O2.out hl O3.out ?_; intro f2 c2 w2 hO2 hB2)
  go_ret
  exact ⟨f2, c2, rfl, hO2, O4.out.trans hB2⟩

end
section
open Go.ChangeShapes Go.WideShapes Go.ChangeAt Go.RowKit Go.Deep

theorem copyM_any (f : Option Addr) (l c : Nat) (X : Nat → BitVec 64) (w : World) (hl : l ≤ 100000) (h : WordsAt w f l X) :
    Calls Tryz.prog 8 #[.agg #[.slice f l c]] w fun e w' => ∃ f' c', e = .returned (.agg #[.slice f' l c']) ∧ OwnW w' w.heap.size (.slice f' l c') l X ∧ Below w.heap.size w w' := by
  obtain ⟨W, hW⟩ : ∃ W, W = ((w.alloc (.cells #[.slice f l c] 24)).alloc (.cells #[.slice none 0 0] 24)).alloc (.cells #[.slice f l c] 24) := ⟨_, rfl⟩
  have hb1 : Below w.heap.size w W := by rw [hW]; exact bel_alloc (bel_alloc (bel_alloc (Below.refl w.heap.size w) _) _) _
  have hs : W.heap.size = w.heap.size + 3 := by rw [hW]; simp
  have L1 : Loc W (w.heap.size + 1) 0 (.slice none 0 0) := by rw [hW]; exact (Loc.new _ _ _ _ 0 _ (by simp) rfl).alloc _
  have L2 : Loc W (w.heap.size + 1 + 1) 0 (.slice f l c) := by rw [hW]; exact Loc.new _ _ _ _ 0 _ (by simp) rfl
  have H := Lib.hid (copyW_any f l c X W hl (h.below hb1))
  go_enter Tryz.func8, Tryz.ntmps8
  go_wp2_with fail
  rw [← hW]
  refine H.out.mono ?_
  rintro e w1 ⟨f1, c1, rfl, hO, hB⟩
  obtain ⟨p1, q1⟩ := L1.below hB
  obtain ⟨p2, q2⟩ := L2.below hB
  have R1 := Lib.hid (((hO.other (w.heap.size + 1 + 1) 0 (.slice f1 l c1) (by omega)).other (w.heap.size + 1) 0 (.slice f1 l c1) (by omega)).mono (show w.heap.size ≤ _ by omega))
  have R2 := Lib.hid (((hb1.trans (hB.mono hb1.size)).setCell (p := ⟨w.heap.size + 1 + 1, 0, none⟩) (by simp only; omega) (.slice f1 l c1)).setCell (p := ⟨w.heap.size + 1, 0, none⟩) (by simp only; omega) (.slice f1 l c1))
  have hz := (((L1.below hB).set (w.heap.size + 1 + 1) 0 (.slice f1 l c1) (by omega)).put (.slice f1 l c1)).cell
  clear hW hb1 hs L1 L2 H h hO hB
  go_wp2
  refine bodyPost_ret (v := .agg #[.slice f1 l c1]) (by simp [results, Tryz.results8, go_sem, hz]) rfl ?_
  exact ⟨f1, c1, rfl, R1.out, R2.out⟩

theorem eqM_any (f g : Option Addr) (l c d : Nat) (X : Nat → BitVec 64) (w : World) (hl : l ≤ 100000) (h1 : WordsAt w f l X) (h2 : WordsAt w g l X) :
    Calls Tryz.prog 58 #[.agg #[.slice f l c], .agg #[.slice g l d]] w fun e w' => e = .returned (.bool true) ∧ Below w.heap.size w w' := by
  have hb1 := bel_alloc (bel_alloc (Below.refl w.heap.size w) (.cells #[.slice f l c] 24)) (.cells #[.slice g l d] 24)
  have H1 := Lib.hid (h1.below hb1)
  have H2 := Lib.hid (h2.below hb1)
  have HB := Lib.hid hb1
  clear h1 h2 hb1
  go_enter Tryz.func58, Tryz.ntmps58
  go_wp2_with (go_at_call 78; refine (eqW_any _ _ _ _ _ X _ hl H1.out H2.out).mono ?_; rintro e w1 ⟨rfl, m, rfl⟩)
  go_returns
  exact ⟨rfl, below_drewN HB.out _⟩

theorem draft_any (b o l c : Nat) (X : Nat → BitVec 64) (w : World) (hl : l ≤ 100000) (h : WordsAt w (some ⟨b, o, none⟩) l X) :
    Calls Tryz.prog 90 #[.agg #[.slice (some ⟨b, o, none⟩) l c]] w fun e w' => ∃ f' c', e = .returned (.agg #[.slice f' l c']) ∧ OwnW w' w.heap.size (.slice f' l c') l X ∧ Below w.heap.size w w' := by
  obtain ⟨W, hW⟩ : ∃ W, W = (w.alloc (.cells #[.slice (some ⟨b, o, none⟩) l c] 24)).alloc (.cells #[.slice none 0 0] 143) := ⟨_, rfl⟩
  have hb1 : Below w.heap.size w W := by rw [hW]; exact bel_alloc (bel_alloc (Below.refl w.heap.size w) _) _
  have hs : W.heap.size = w.heap.size + 2 := by rw [hW]; simp
  have L1 : Loc W (w.heap.size + 1) 0 (.slice none 0 0) := by rw [hW]; exact Loc.new _ _ _ _ 0 _ (by simp) rfl
  have H := Lib.hid (clone_any b o l c X W hl (h.below hb1))
  go_enter Tryz.func90, Tryz.ntmps90
  go_wp2_with fail
  rw [← hW]
  refine H.out.mono ?_
  rintro e w1 ⟨f1, c1, rfl, hO, hB⟩
  obtain ⟨p1, q1⟩ := L1.below hB
  have R1 := Lib.hid ((hO.other (w.heap.size + 1) 0 (.slice f1 l c1) (by omega)).mono (show w.heap.size ≤ _ by omega))
  have R2 := Lib.hid ((hb1.trans (hB.mono hb1.size)).setCell (p := ⟨w.heap.size + 1, 0, none⟩) (by simp only; omega) (.slice f1 l c1))
  have hz := ((L1.below hB).put (.slice f1 l c1)).cell
  clear hW hb1 hs L1 H h hO hB
  go_wp2
  refine bodyPost_ret (v := .agg #[.slice f1 l c1]) (by simp [results, Tryz.results90, go_sem, hz]) rfl ?_
  exact ⟨f1, c1, rfl, R1.out, R2.out⟩

theorem frame_any (b o l c : Nat) (k : Int) (w : World) (h0 : 0 ≤ k) (h1 : k * 8 + 8 ≤ l) (hl : l ≤ c) (hc : l ≤ 100000) :
    Calls Tryz.prog 91 #[.agg #[.slice (some ⟨b, o, none⟩) l c], .int .i64 k] w fun e w' => e = .returned (.slice (some ⟨b, o + (k * 8).toNat, none⟩) 8 (c - (k * 8).toNat)) ∧ w' = w.alloc (.cells #[.slice (some ⟨b, o, none⟩) l c] 140) := by
  go_enter Tryz.func91, Tryz.ntmps91
  go_wp2
  go_ret
  rw [show ((k + 1) * 8).toNat - (k * 8).toNat = 8 from by omega]
  exact ⟨rfl, rfl⟩
end
end Go.Proofs.YtbhnjaajkolklaaGreat
