/- Contracts: bulwarkref0.CopyWords, EqWords; bulwarklaw0.Words; slices.Clone of words. Contracts: CopyMem, EqMem of the reference; draftOf, frame, allows, hasAll of package mem; the law's there. -/
import Derived.Test.YtbhnjaajkolklaaOwn
import Derived.Test.YtbhnjaajkolklaaMemA
set_option linter.all false
namespace Go.Proofs.Ytbhnjaajkolklaa
section
open Go.ChangeShapes Go.WideShapes Go.ChangeAt Go.RowKit Go.Deep

set_option maxRecDepth 100000 in
theorem clone_any (b o l c : Nat) (X : Nat → BitVec 64) (w : World) (hl : l ≤ 100000) (h : WordsAt w (some ⟨b, o, none⟩) l X) :
    Calls Try.prog 65 #[.slice (some ⟨b, o, none⟩) l c] w fun e w' => ∃ f' c', e = .returned (.slice f' l c') ∧ OwnW w' w.heap.size (.slice f' l c') l X ∧ Below w.heap.size w w' := by
  have O1 : Hid ((w.alloc (.cells #[] 45)).ownsRow w.heap.size 45 1 (.slice (some ⟨w.heap.size, 0, none⟩) 0 0) 0 []) :=
    World.ownsRow_made (base := w.heap.size) (e := 45) (size := 1) w #[] 0 (Nat.le_refl _) (by unfold maxLen; omega) rfl
  have hb := bel_alloc (Below.refl w.heap.size w) (.cells #[] 45)
  have O2 := Lib.hid (h.below hb)
  have O3 := Lib.hid hb.size
  have O4 := Lib.hid hb
  clear h hb
  have he : ∀ w : World, (binOp .eql 22 (.slice (some ⟨b, o, none⟩) l c) (.slice none 0 0)).run Try.prog w = .ok (.bool false) w := fun _ => rfl
  go_enter Try.func65, Try.ntmps65
  go_wp2_with (at_builtin; refine wpList_cloneW rfl _ _ rfl w.heap.size w.heap.size 0 rfl O1.out _ _ _ X rfl O2.out hl O3.out ?_; intro f2 c2 w2 hO2 hB2)
  go_ret
  exact ⟨f2, c2, rfl, hO2, O4.out.trans hB2⟩

end
section
open Go.ChangeShapes Go.WideShapes Go.ChangeAt Go.RowKit Go.Deep

theorem draft_any (b o l c : Nat) (X : Nat → BitVec 64) (w : World) (hl : l ≤ 100000) (h : WordsAt w (some ⟨b, o, none⟩) l X) :
    Calls Try.prog 47 #[.agg #[.slice (some ⟨b, o, none⟩) l c]] w fun e w' => ∃ f' c', e = .returned (.agg #[.slice f' l c']) ∧ OwnW w' w.heap.size (.slice f' l c') l X ∧ Below w.heap.size w w' := by
  obtain ⟨W, hW⟩ : ∃ W, W = (w.alloc (.cells #[.slice (some ⟨b, o, none⟩) l c] 24)).alloc (.cells #[.slice none 0 0] 104) := ⟨_, rfl⟩
  have hb1 : Below w.heap.size w W := by rw [hW]; exact bel_alloc (bel_alloc (Below.refl w.heap.size w) _) _
  have hs : W.heap.size = w.heap.size + 2 := by rw [hW]; simp
  have L1 : Loc W (w.heap.size + 1) 0 (.slice none 0 0) := by rw [hW]; exact Loc.new _ _ _ _ 0 _ (by simp) rfl
  have H := Lib.hid (clone_any b o l c X W hl (h.below hb1))
  go_enter Try.func47, Try.ntmps47
  go_wp2_with fail
  rw [← hW]
  refine H.out.mono ?_
  rintro e w1 ⟨f1, c1, rfl, hO, hB⟩
  obtain ⟨p1, q1⟩ := L1.below hB
  have R1 := Lib.hid ((hO.other (w.heap.size + 1) 0 (.slice f1 l c1) (by omega)).mono (show w.heap.size ≤ _ by omega))
  have R2 := Lib.hid ((hb1.trans (hB.mono hb1.size)).setCell (p := ⟨w.heap.size + 1, 0, none⟩) (by simp only; omega) (.slice f1 l c1))
  have hz := ((L1.below hB).put (.slice f1 l c1)).cell
  clear hW hb1 hs L1 H h hO hB
  go_wp2
  refine bodyPost_ret (v := .agg #[.slice f1 l c1]) (by simp [results, Try.results47, go_sem, hz]) rfl ?_
  exact ⟨f1, c1, rfl, R1.out, R2.out⟩

theorem frame_any (b o l c : Nat) (k : Int) (w : World) (h0 : 0 ≤ k) (h1 : k * 8 + 8 ≤ l) (hl : l ≤ c) (hc : l ≤ 100000) :
    Calls Try.prog 48 #[.agg #[.slice (some ⟨b, o, none⟩) l c], .int .i64 k] w fun e w' => e = .returned (.slice (some ⟨b, o + (k * 8).toNat, none⟩) 8 (c - (k * 8).toNat)) ∧ w' = w.alloc (.cells #[.slice (some ⟨b, o, none⟩) l c] 101) := by
  go_enter Try.func48, Try.ntmps48
  go_wp2
  go_ret
  rw [show ((k + 1) * 8).toNat - (k * 8).toNat = 8 from by omega]
  exact ⟨rfl, rfl⟩
end
end Go.Proofs.Ytbhnjaajkolklaa
