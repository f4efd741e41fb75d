/- Contracts: bulwarkref0.CopyWords, EqWords; bulwarklaw0.Words; slices.Clone of words. -/
import Derived.Test.YtpnkhijbfnnggaaOwn
namespace Go.Proofs.Ytpnkhijbfnnggaa
open Go.ChangeShapes Go.WideShapes Go.ChangeAt Go.RowKit Go.Deep

set_option maxRecDepth 100000 in
theorem copyW_any (f : Option Addr) (l c : Nat) (X : Nat → BitVec 64) (w : World) (hl : l ≤ 100000) (h : WordsAt w f l X) :
    Calls Try.prog 35 #[.slice f l c] w fun e w' => ∃ f' c', e = .returned (.slice f' l c') ∧ OwnW w' w.heap.size (.slice f' l c') l X ∧ Below w.heap.size w w' := by
  have HX := Lib.hid h
  clear h
  go_enter Try.func35, Try.ntmps35
  go_wp2
  go_loopw [3, 4] (fun v i wr => ∃ (k : Nat) (f' : Option Addr) (c' : Nat), k ≤ l ∧ i = .int .i64 k ∧ v = .slice f' k c' ∧ Below w.heap.size w wr ∧ Hid (OwnW wr w.heap.size (.slice f' k c') k X)) (fun _ i _ => l - (intOf i).toNat)
  case atStart => exact ⟨0, none, 0, Nat.zero_le _, rfl, rfl, Below.refl _ _, OwnW.nil _ _ _⟩
  case round =>
    obtain ⟨k, f', c', hk, rfl, rfl, hb, HO⟩ := hrel
    by_cases hlt : k < l
    · obtain ⟨b, o, rfl, hc⟩ := HX.out k hlt
      have hc' := keepc hb hc
      have HB := Lib.hid hb
      have i1 : (0 : Int) ≤ (k : Int) := by omega
      have i2 : (k : Int) < (l : Int) := by omega
      have HS : Hid (w.heap.size ≤ (wr.alloc (.cells #[.int .u64 (u (X k))] 30)).heap.size) := by
        have := hb.size
        show _ ≤ _
        simp
        omega
      have HO1 : Hid (OwnW (wr.alloc (.cells #[.int .u64 (u (X k))] 30)) w.heap.size (.slice f' k c') k X) := HO.out.below (bel_alloc (Below.refl _ _) _)
      have HY : Hid ((wr.alloc (.cells #[.int .u64 (u (X k))] 30)).cell? ⟨wr.heap.size, 0, none⟩ = some (.int .u64 (u (X k)))) := cell_new wr _ _ 0
      have HB1 : Hid (Below w.heap.size w (wr.alloc (.cells #[.int .u64 (u (X k))] 30))) := bel_alloc hb _
      clear hb HO hc
      go_wp2_with (at_builtin; refine wpList_pushW rfl _ _ rfl w.heap.size _ k X rfl HO1.out wr.heap.size 1 (X k) rfl HY.out (by omega) HS.out ?_; intro f2 c2 w2 hO2 hB2)
      go_roundw
      case rel => exact ⟨k + 1, f2, c2, by omega, by go_num, rfl, HB1.out.trans hB2, by rw [upd_self] at hO2; exact hO2⟩
      case measure => simp [intOf]; omega
    · obtain rfl : k = l := by omega
      go_wp2
      go_ret
      exact ⟨f', c', rfl, HO.out, hb⟩

set_option maxRecDepth 100000 in
theorem eqW_any (f g : Option Addr) (l c d : Nat) (X : Nat → BitVec 64) (w : World) (hl : l ≤ 100000) (h1 : WordsAt w f l X) (h2 : WordsAt w g l X) :
    Calls Try.prog 26 #[.slice f l c, .slice g l d] w fun e w' => e = .returned (.bool true) ∧ ∃ m, w' = w.drewN m := by
  have H1 := Lib.hid h1
  have H2 := Lib.hid h2
  clear h1 h2
  go_enter Try.func26, Try.ntmps26
  go_wp2
  go_loopw [5] (fun i wr => ∃ (k m : Nat), k ≤ l ∧ i = .int .i64 k ∧ wr = w.drewN m) (fun i _ => l - (intOf i).toNat)
  case atStart => exact ⟨0, 0, Nat.zero_le _, rfl, rfl⟩
  case round =>
    obtain ⟨k, m, hk, rfl, rfl⟩ := hrel
    by_cases hlt : k < l
    · obtain ⟨b, o, rfl, hc⟩ := H1.out k hlt
      obtain ⟨b', o', rfl, hc'⟩ := H2.out k hlt
      have i1 : (0 : Int) ≤ (k : Int) := by omega
      have i2 : (k : Int) < (l : Int) := by omega
      go_wp2_with fail
      go_quiet (fail)
      go_wp2
      go_roundw
      case rel => exact ⟨k + 1, m + _, by omega, by go_num, rfl⟩
      case measure => simp [intOf]; omega
    · go_wp2
      go_ret
      exact ⟨rfl, _, rfl⟩

theorem clone_any (b o l c : Nat) (X : Nat → BitVec 64) (w : World) (hl : l ≤ 100000) (h : WordsAt w (some ⟨b, o, none⟩) l X) :
    Calls Try.prog 47 #[.slice (some ⟨b, o, none⟩) l c] w fun e w' => ∃ f' c', e = .returned (.slice f' l c') ∧ OwnW w' w.heap.size (.slice f' l c') l X ∧ Below w.heap.size w w' := by
  have O1 : Hid ((w.alloc (.cells #[] 30)).ownsRow w.heap.size 30 1 (.slice (some ⟨w.heap.size, 0, none⟩) 0 0) 0 []) :=
    World.ownsRow_made (base := w.heap.size) (e := 30) (size := 1) w #[] 0 (Nat.le_refl _) (by unfold maxLen; omega) rfl
  have hb := bel_alloc (Below.refl w.heap.size w) (.cells #[] 30)
  have O2 := Lib.hid (h.below hb)
  have O3 := Lib.hid hb.size
  have O4 := Lib.hid hb
  clear h hb
  have he : ∀ w : World, (binOp .eql 22 (.slice (some ⟨b, o, none⟩) l c) (.slice none 0 0)).run Try.prog w = .ok (.bool false) w := fun _ => rfl
  go_enter Try.func47, Try.ntmps47
  go_wp2_with (at_builtin; refine wpList_cloneW rfl _ _ rfl w.heap.size w.heap.size 0 rfl O1.out _ _ _ X rfl O2.out hl O3.out ?_; intro f2 c2 w2 hO2 hB2)
  go_ret
  exact ⟨f2, c2, rfl, hO2, O4.out.trans hB2⟩

set_option maxRecDepth 100000 in
theorem spoil_any (base : Nat) (f : Option Addr) (l c : Nat) (X : Nat → BitVec 64) (w : World) (hl : l ≤ 100000) (hbase : base ≤ w.heap.size) (h : OwnW w base (.slice f l c) l X) :
    Calls Try.prog 27 #[.slice f l c] w fun e w' => e = .returned (.tuple #[]) ∧ Below base w w' := by
  have HX := Lib.hid h
  clear h
  go_enter Try.func27, Try.ntmps27
  go_wp2
  go_loopw [2] (fun i wr => ∃ (k : Nat) (Y : Nat → BitVec 64), k ≤ l ∧ i = .int .i64 k ∧ Below base w wr ∧ Hid (OwnW wr base (.slice f l c) l Y)) (fun i _ => l - (intOf i).toNat)
  case atStart => exact ⟨0, X, Nat.zero_le _, rfl, Below.refl _ _, HX⟩
  case round =>
    obtain ⟨k, Y, hk, rfl, hb, HO⟩ := hrel
    by_cases hlt : k < l
    · obtain ⟨g, c1, hv, hg, hgl, _, hc⟩ := HO.out.pos (by omega)
      simp at hv
      obtain ⟨rfl, rfl⟩ := hv
      have hc1 := hc k hlt
      have hfz := HO.out.frozen k
      have i1 : (0 : Int) ≤ (k : Int) := by omega
      have i2 : (k : Int) < (l : Int) := by omega
      have HB := Lib.hid hb
      clear hb hc
      have hx5 : bits .xor .u64 (u (Y k)) 21845 = u (Y k ^^^ 21845#64) := by
        rw [show (21845 : Int) = u 21845#64 from by decide, u_xor]
      generalize Y k ^^^ 21845#64 = z at hx5
      go_wp2
      go_roundw
      case rel => exact ⟨k + 1, _, by omega, by go_num, HB.out.setCell hg _, HO.out.stored k z⟩
      case measure => simp [intOf]; omega
    · have hs := hb.size
      have HS : Hid (base ≤ (wr.alloc (.cells #[.int .u64 5] 30)).heap.size) := by
        show _ ≤ _
        simp
        omega
      have HO1 : Hid (OwnW (wr.alloc (.cells #[.int .u64 5] 30)) base (.slice f l c) l Y) := HO.out.below (bel_alloc (Below.refl _ _) _)
      have HY : Hid ((wr.alloc (.cells #[.int .u64 5] 30)).cell? ⟨wr.heap.size, 0, none⟩ = some (.int .u64 (u 5#64))) := cell_new wr _ _ 0
      have HB1 : Hid (Below base w (wr.alloc (.cells #[.int .u64 5] 30))) := hb.alloc (by omega) _
      clear hb HO
      go_wp2_with (at_builtin; refine wpList_pushW rfl _ _ rfl base _ l Y rfl HO1.out wr.heap.size 1 5#64 rfl HY.out (by omega) HS.out ?_; intro f2 c2 w2 hO2 hB2)
      go_returns
      exact ⟨rfl, HB1.out.trans hB2⟩
end Go.Proofs.Ytpnkhijbfnnggaa
