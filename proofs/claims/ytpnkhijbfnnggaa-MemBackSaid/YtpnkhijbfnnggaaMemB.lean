/- Contracts: CopyMem, EqMem of the reference; draftOf, frame, allows, hasAll of package mem; the law's there. -/
import Derived.Test.YtpnkhijbfnnggaaWords
import Derived.Test.YtpnkhijbfnnggaaMemA
namespace Go.Proofs.Ytpnkhijbfnnggaa
open Go.ChangeShapes Go.WideShapes Go.ChangeAt Go.RowKit Go.Deep

theorem copyM_any (f : Option Addr) (l c : Nat) (X : Nat → BitVec 64) (w : World) (hl : l ≤ 100000) (h : WordsAt w f l X) :
    Calls Try.prog 11 #[.agg #[.slice f l c]] w fun e w' => ∃ f' c', e = .returned (.agg #[.slice f' l c']) ∧ OwnW w' w.heap.size (.slice f' l c') l X ∧ Below w.heap.size w w' := by
  obtain ⟨W, hW⟩ : ∃ W, W = ((w.alloc (.cells #[.slice f l c] 24)).alloc (.cells #[.slice none 0 0] 24)).alloc (.cells #[.slice f l c] 24) := ⟨_, rfl⟩
  have hb1 : Below w.heap.size w W := by rw [hW]; exact bel_alloc (bel_alloc (bel_alloc (Below.refl w.heap.size w) _) _) _
  have hs : W.heap.size = w.heap.size + 3 := by rw [hW]; simp
  have L1 : Loc W (w.heap.size + 1) 0 (.slice none 0 0) := by rw [hW]; exact (Loc.new _ _ _ _ 0 _ (by simp) rfl).alloc _
  have L2 : Loc W (w.heap.size + 1 + 1) 0 (.slice f l c) := by rw [hW]; exact Loc.new _ _ _ _ 0 _ (by simp) rfl
  have H := Lib.hid (copyW_any f l c X W hl (h.below hb1))
  go_enter Try.func11, Try.ntmps11
  go_wp2_with fail
  rw [← hW]
  refine H.out.mono ?_
  rintro e w1 ⟨f1, c1, rfl, hO, hB⟩
  obtain ⟨p1, q1⟩ := L1.below hB
  obtain ⟨p2, q2⟩ := L2.below hB
  have R1 := Lib.hid (((hO.other (w.heap.size + 1 + 1) 0 (.slice f1 l c1) (by omega)).other (w.heap.size + 1) 0 (.slice f1 l c1) (by omega)).mono (show w.heap.size ≤ _ by omega))
  have R2 := Lib.hid (((hb1.trans (hB.mono hb1.size)).setCell (p := ⟨w.heap.size + 1 + 1, 0, none⟩) (by simp only; omega) (.slice f1 l c1)).setCell (p := ⟨w.heap.size + 1, 0, none⟩) (by simp only; omega) (.slice f1 l c1))
  have hz := (((L1.below hB).set (w.heap.size + 1 + 1) 0 (.slice f1 l c1) (by omega)).put (.slice f1 l c1)).cell
  clear hW hb1 hs L1 L2 H h hO hB
  go_wp2
  refine bodyPost_ret (v := .agg #[.slice f1 l c1]) (by simp [results, Try.results11, go_sem, hz]) rfl ?_
  exact ⟨f1, c1, rfl, R1.out, R2.out⟩

theorem eqM_any (f g : Option Addr) (l c d : Nat) (X : Nat → BitVec 64) (w : World) (hl : l ≤ 100000) (h1 : WordsAt w f l X) (h2 : WordsAt w g l X) :
    Calls Try.prog 30 #[.agg #[.slice f l c], .agg #[.slice g l d]] w fun e w' => e = .returned (.bool true) ∧ Below w.heap.size w w' := by
  have hb1 := bel_alloc (bel_alloc (Below.refl w.heap.size w) (.cells #[.slice f l c] 24)) (.cells #[.slice g l d] 24)
  have H1 := Lib.hid (h1.below hb1)
  have H2 := Lib.hid (h2.below hb1)
  have HB := Lib.hid hb1
  clear h1 h2 hb1
  go_enter Try.func30, Try.ntmps30
  go_wp2_with (go_at_call 26; refine (eqW_any _ _ _ _ _ X _ hl H1.out H2.out).mono ?_; rintro e w1 ⟨rfl, m, rfl⟩)
  go_returns
  exact ⟨rfl, below_drewN HB.out _⟩

theorem draft_any (b o l c : Nat) (X : Nat → BitVec 64) (w : World) (hl : l ≤ 100000) (h : WordsAt w (some ⟨b, o, none⟩) l X) :
    Calls Try.prog 45 #[.agg #[.slice (some ⟨b, o, none⟩) l c]] w fun e w' => ∃ f' c', e = .returned (.agg #[.slice f' l c']) ∧ OwnW w' w.heap.size (.slice f' l c') l X ∧ Below w.heap.size w w' := by
  obtain ⟨W, hW⟩ : ∃ W, W = (w.alloc (.cells #[.slice (some ⟨b, o, none⟩) l c] 24)).alloc (.cells #[.slice none 0 0] 76) := ⟨_, rfl⟩
  have hb1 : Below w.heap.size w W := by rw [hW]; exact bel_alloc (bel_alloc (Below.refl w.heap.size w) _) _
  have hs : W.heap.size = w.heap.size + 2 := by rw [hW]; simp
  have L1 : Loc W (w.heap.size + 1) 0 (.slice none 0 0) := by rw [hW]; exact Loc.new _ _ _ _ 0 _ (by simp) rfl
  have H := Lib.hid (clone_any b o l c X W hl (h.below hb1))
  go_enter Try.func45, Try.ntmps45
  go_wp2_with fail
  rw [← hW]
  refine H.out.mono ?_
  rintro e w1 ⟨f1, c1, rfl, hO, hB⟩
  obtain ⟨p1, q1⟩ := L1.below hB
  have R1 := Lib.hid ((hO.other (w.heap.size + 1) 0 (.slice f1 l c1) (by omega)).mono (show w.heap.size ≤ _ by omega))
  have R2 := Lib.hid ((hb1.trans (hB.mono hb1.size)).setCell (p := ⟨w.heap.size + 1, 0, none⟩) (by simp only; omega) (.slice f1 l c1))
  have hz := ((L1.below hB).put (.slice f1 l c1)).cell
  clear hW hb1 hs L1 H h hO hB
  go_wp2
  refine bodyPost_ret (v := .agg #[.slice f1 l c1]) (by simp [results, Try.results45, go_sem, hz]) rfl ?_
  exact ⟨f1, c1, rfl, R1.out, R2.out⟩

theorem frame_any (b o l c : Nat) (k : Int) (w : World) (h0 : 0 ≤ k) (h1 : k * 8 + 8 ≤ l) (hl : l ≤ c) (hc : l ≤ 100000) :
    Calls Try.prog 46 #[.agg #[.slice (some ⟨b, o, none⟩) l c], .int .i64 k] w fun e w' => e = .returned (.slice (some ⟨b, o + (k * 8).toNat, none⟩) 8 (c - (k * 8).toNat)) ∧ w' = w.alloc (.cells #[.slice (some ⟨b, o, none⟩) l c] 65) := by
  go_enter Try.func46, Try.ntmps46
  go_wp2
  go_ret
  rw [show ((k + 1) * 8).toNat - (k * 8).toNat = 8 from by omega]
  exact ⟨rfl, rfl⟩
end Go.Proofs.Ytpnkhijbfnnggaa
