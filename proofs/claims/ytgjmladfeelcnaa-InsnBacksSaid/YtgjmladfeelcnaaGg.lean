/- Stage 11: the laws of one Op each. -/
import Derived.Test.YtgjmladfeelcnaaGf
set_option linter.all false
namespace Go.Proofs.Ytgjmladfeelcnaa
open Go.ChangeShapes Go.WideShapes Go.ChangeAt Go.RowKit Go.Deep

theorem moves11_empty (a : Option Addr) (cap : Nat) (w : World) :
    Calls Try.prog 5 #[.slice a 0 cap] w fun e w' => e = .returned (.bool true) ∧ Below w.heap.size w w' := by
  have H := Lib.hid (op11_empty a cap 1 w)
  go_enter Try.func5, Try.ntmps5
  go_wp2_with fail
  refine H.out.mono ?_
  rintro e w1 ⟨rfl, hb⟩
  go_wp2
  go_ret
  exact ⟨rfl, hb⟩
theorem moves11_walk (b o l c : Nat) (w : World) (q : Nat → Q11) (hl : l ≤ 9223372036854775807) (hc : ∀ i, i < l → RowAt w b (o + i * 6) 6 (ask11V (q i)) ∧ (0 ≤ (q i).w ∧ (q i).w ≤ 4294967295)) :
    Calls Try.prog 5 #[.slice (some ⟨b, o, none⟩) l c] w fun e w' => e = .returned (.bool true) ∧ Below w.heap.size w w' := by
  have H := Lib.hid (op11_walk b o l c w q hl hc 1 (by decide) (by decide))
  go_enter Try.func5, Try.ntmps5
  go_wp2_with fail
  refine H.out.mono ?_
  rintro e w1 ⟨rfl, hb⟩
  go_wp2
  go_ret
  exact ⟨rfl, hb⟩
theorem adds11_empty (a : Option Addr) (cap : Nat) (w : World) :
    Calls Try.prog 6 #[.slice a 0 cap] w fun e w' => e = .returned (.bool true) ∧ Below w.heap.size w w' := by
  have H := Lib.hid (op11_empty a cap 2 w)
  go_enter Try.func6, Try.ntmps6
  go_wp2_with fail
  refine H.out.mono ?_
  rintro e w1 ⟨rfl, hb⟩
  go_wp2
  go_ret
  exact ⟨rfl, hb⟩
theorem adds11_walk (b o l c : Nat) (w : World) (q : Nat → Q11) (hl : l ≤ 9223372036854775807) (hc : ∀ i, i < l → RowAt w b (o + i * 6) 6 (ask11V (q i)) ∧ (0 ≤ (q i).w ∧ (q i).w ≤ 4294967295)) :
    Calls Try.prog 6 #[.slice (some ⟨b, o, none⟩) l c] w fun e w' => e = .returned (.bool true) ∧ Below w.heap.size w w' := by
  have H := Lib.hid (op11_walk b o l c w q hl hc 2 (by decide) (by decide))
  go_enter Try.func6, Try.ntmps6
  go_wp2_with fail
  refine H.out.mono ?_
  rintro e w1 ⟨rfl, hb⟩
  go_wp2
  go_ret
  exact ⟨rfl, hb⟩
theorem subs11_empty (a : Option Addr) (cap : Nat) (w : World) :
    Calls Try.prog 7 #[.slice a 0 cap] w fun e w' => e = .returned (.bool true) ∧ Below w.heap.size w w' := by
  have H := Lib.hid (op11_empty a cap 3 w)
  go_enter Try.func7, Try.ntmps7
  go_wp2_with fail
  refine H.out.mono ?_
  rintro e w1 ⟨rfl, hb⟩
  go_wp2
  go_ret
  exact ⟨rfl, hb⟩
theorem subs11_walk (b o l c : Nat) (w : World) (q : Nat → Q11) (hl : l ≤ 9223372036854775807) (hc : ∀ i, i < l → RowAt w b (o + i * 6) 6 (ask11V (q i)) ∧ (0 ≤ (q i).w ∧ (q i).w ≤ 4294967295)) :
    Calls Try.prog 7 #[.slice (some ⟨b, o, none⟩) l c] w fun e w' => e = .returned (.bool true) ∧ Below w.heap.size w w' := by
  have H := Lib.hid (op11_walk b o l c w q hl hc 3 (by decide) (by decide))
  go_enter Try.func7, Try.ntmps7
  go_wp2_with fail
  refine H.out.mono ?_
  rintro e w1 ⟨rfl, hb⟩
  go_wp2
  go_ret
  exact ⟨rfl, hb⟩
theorem ands11_empty (a : Option Addr) (cap : Nat) (w : World) :
    Calls Try.prog 8 #[.slice a 0 cap] w fun e w' => e = .returned (.bool true) ∧ Below w.heap.size w w' := by
  have H := Lib.hid (op11_empty a cap 4 w)
  go_enter Try.func8, Try.ntmps8
  go_wp2_with fail
  refine H.out.mono ?_
  rintro e w1 ⟨rfl, hb⟩
  go_wp2
  go_ret
  exact ⟨rfl, hb⟩
theorem ands11_walk (b o l c : Nat) (w : World) (q : Nat → Q11) (hl : l ≤ 9223372036854775807) (hc : ∀ i, i < l → RowAt w b (o + i * 6) 6 (ask11V (q i)) ∧ (0 ≤ (q i).w ∧ (q i).w ≤ 4294967295)) :
    Calls Try.prog 8 #[.slice (some ⟨b, o, none⟩) l c] w fun e w' => e = .returned (.bool true) ∧ Below w.heap.size w w' := by
  have H := Lib.hid (op11_walk b o l c w q hl hc 4 (by decide) (by decide))
  go_enter Try.func8, Try.ntmps8
  go_wp2_with fail
  refine H.out.mono ?_
  rintro e w1 ⟨rfl, hb⟩
  go_wp2
  go_ret
  exact ⟨rfl, hb⟩
theorem ors11_empty (a : Option Addr) (cap : Nat) (w : World) :
    Calls Try.prog 9 #[.slice a 0 cap] w fun e w' => e = .returned (.bool true) ∧ Below w.heap.size w w' := by
  have H := Lib.hid (op11_empty a cap 5 w)
  go_enter Try.func9, Try.ntmps9
  go_wp2_with fail
  refine H.out.mono ?_
  rintro e w1 ⟨rfl, hb⟩
  go_wp2
  go_ret
  exact ⟨rfl, hb⟩
theorem ors11_walk (b o l c : Nat) (w : World) (q : Nat → Q11) (hl : l ≤ 9223372036854775807) (hc : ∀ i, i < l → RowAt w b (o + i * 6) 6 (ask11V (q i)) ∧ (0 ≤ (q i).w ∧ (q i).w ≤ 4294967295)) :
    Calls Try.prog 9 #[.slice (some ⟨b, o, none⟩) l c] w fun e w' => e = .returned (.bool true) ∧ Below w.heap.size w w' := by
  have H := Lib.hid (op11_walk b o l c w q hl hc 5 (by decide) (by decide))
  go_enter Try.func9, Try.ntmps9
  go_wp2_with fail
  refine H.out.mono ?_
  rintro e w1 ⟨rfl, hb⟩
  go_wp2
  go_ret
  exact ⟨rfl, hb⟩
theorem xors11_empty (a : Option Addr) (cap : Nat) (w : World) :
    Calls Try.prog 10 #[.slice a 0 cap] w fun e w' => e = .returned (.bool true) ∧ Below w.heap.size w w' := by
  have H := Lib.hid (op11_empty a cap 6 w)
  go_enter Try.func10, Try.ntmps10
  go_wp2_with fail
  refine H.out.mono ?_
  rintro e w1 ⟨rfl, hb⟩
  go_wp2
  go_ret
  exact ⟨rfl, hb⟩
theorem xors11_walk (b o l c : Nat) (w : World) (q : Nat → Q11) (hl : l ≤ 9223372036854775807) (hc : ∀ i, i < l → RowAt w b (o + i * 6) 6 (ask11V (q i)) ∧ (0 ≤ (q i).w ∧ (q i).w ≤ 4294967295)) :
    Calls Try.prog 10 #[.slice (some ⟨b, o, none⟩) l c] w fun e w' => e = .returned (.bool true) ∧ Below w.heap.size w w' := by
  have H := Lib.hid (op11_walk b o l c w q hl hc 6 (by decide) (by decide))
  go_enter Try.func10, Try.ntmps10
  go_wp2_with fail
  refine H.out.mono ?_
  rintro e w1 ⟨rfl, hb⟩
  go_wp2
  go_ret
  exact ⟨rfl, hb⟩
theorem loads11_empty (a : Option Addr) (cap : Nat) (w : World) :
    Calls Try.prog 11 #[.slice a 0 cap] w fun e w' => e = .returned (.bool true) ∧ Below w.heap.size w w' := by
  have H := Lib.hid (op11_empty a cap 7 w)
  go_enter Try.func11, Try.ntmps11
  go_wp2_with fail
  refine H.out.mono ?_
  rintro e w1 ⟨rfl, hb⟩
  go_wp2
  go_ret
  exact ⟨rfl, hb⟩
theorem loads11_walk (b o l c : Nat) (w : World) (q : Nat → Q11) (hl : l ≤ 9223372036854775807) (hc : ∀ i, i < l → RowAt w b (o + i * 6) 6 (ask11V (q i)) ∧ (0 ≤ (q i).w ∧ (q i).w ≤ 4294967295)) :
    Calls Try.prog 11 #[.slice (some ⟨b, o, none⟩) l c] w fun e w' => e = .returned (.bool true) ∧ Below w.heap.size w w' := by
  have H := Lib.hid (op11_walk b o l c w q hl hc 7 (by decide) (by decide))
  go_enter Try.func11, Try.ntmps11
  go_wp2_with fail
  refine H.out.mono ?_
  rintro e w1 ⟨rfl, hb⟩
  go_wp2
  go_ret
  exact ⟨rfl, hb⟩
theorem stores11_empty (a : Option Addr) (cap : Nat) (w : World) :
    Calls Try.prog 12 #[.slice a 0 cap] w fun e w' => e = .returned (.bool true) ∧ Below w.heap.size w w' := by
  have H := Lib.hid (op11_empty a cap 8 w)
  go_enter Try.func12, Try.ntmps12
  go_wp2_with fail
  refine H.out.mono ?_
  rintro e w1 ⟨rfl, hb⟩
  go_wp2
  go_ret
  exact ⟨rfl, hb⟩
theorem stores11_walk (b o l c : Nat) (w : World) (q : Nat → Q11) (hl : l ≤ 9223372036854775807) (hc : ∀ i, i < l → RowAt w b (o + i * 6) 6 (ask11V (q i)) ∧ (0 ≤ (q i).w ∧ (q i).w ≤ 4294967295)) :
    Calls Try.prog 12 #[.slice (some ⟨b, o, none⟩) l c] w fun e w' => e = .returned (.bool true) ∧ Below w.heap.size w w' := by
  have H := Lib.hid (op11_walk b o l c w q hl hc 8 (by decide) (by decide))
  go_enter Try.func12, Try.ntmps12
  go_wp2_with fail
  refine H.out.mono ?_
  rintro e w1 ⟨rfl, hb⟩
  go_wp2
  go_ret
  exact ⟨rfl, hb⟩
theorem jumps11_empty (a : Option Addr) (cap : Nat) (w : World) :
    Calls Try.prog 13 #[.slice a 0 cap] w fun e w' => e = .returned (.bool true) ∧ Below w.heap.size w w' := by
  have H := Lib.hid (op11_empty a cap 9 w)
  go_enter Try.func13, Try.ntmps13
  go_wp2_with fail
  refine H.out.mono ?_
  rintro e w1 ⟨rfl, hb⟩
  go_wp2
  go_ret
  exact ⟨rfl, hb⟩
theorem jumps11_walk (b o l c : Nat) (w : World) (q : Nat → Q11) (hl : l ≤ 9223372036854775807) (hc : ∀ i, i < l → RowAt w b (o + i * 6) 6 (ask11V (q i)) ∧ (0 ≤ (q i).w ∧ (q i).w ≤ 4294967295)) :
    Calls Try.prog 13 #[.slice (some ⟨b, o, none⟩) l c] w fun e w' => e = .returned (.bool true) ∧ Below w.heap.size w w' := by
  have H := Lib.hid (op11_walk b o l c w q hl hc 9 (by decide) (by decide))
  go_enter Try.func13, Try.ntmps13
  go_wp2_with fail
  refine H.out.mono ?_
  rintro e w1 ⟨rfl, hb⟩
  go_wp2
  go_ret
  exact ⟨rfl, hb⟩
theorem zeros11_empty (a : Option Addr) (cap : Nat) (w : World) :
    Calls Try.prog 14 #[.slice a 0 cap] w fun e w' => e = .returned (.bool true) ∧ Below w.heap.size w w' := by
  have H := Lib.hid (op11_empty a cap 10 w)
  go_enter Try.func14, Try.ntmps14
  go_wp2_with fail
  refine H.out.mono ?_
  rintro e w1 ⟨rfl, hb⟩
  go_wp2
  go_ret
  exact ⟨rfl, hb⟩
theorem zeros11_walk (b o l c : Nat) (w : World) (q : Nat → Q11) (hl : l ≤ 9223372036854775807) (hc : ∀ i, i < l → RowAt w b (o + i * 6) 6 (ask11V (q i)) ∧ (0 ≤ (q i).w ∧ (q i).w ≤ 4294967295)) :
    Calls Try.prog 14 #[.slice (some ⟨b, o, none⟩) l c] w fun e w' => e = .returned (.bool true) ∧ Below w.heap.size w w' := by
  have H := Lib.hid (op11_walk b o l c w q hl hc 10 (by decide) (by decide))
  go_enter Try.func14, Try.ntmps14
  go_wp2_with fail
  refine H.out.mono ?_
  rintro e w1 ⟨rfl, hb⟩
  go_wp2
  go_ret
  exact ⟨rfl, hb⟩
theorem reads11_empty (a : Option Addr) (cap : Nat) (w : World) :
    Calls Try.prog 15 #[.slice a 0 cap] w fun e w' => e = .returned (.bool true) ∧ Below w.heap.size w w' := by
  have H := Lib.hid (op11_empty a cap 11 w)
  go_enter Try.func15, Try.ntmps15
  go_wp2_with fail
  refine H.out.mono ?_
  rintro e w1 ⟨rfl, hb⟩
  go_wp2
  go_ret
  exact ⟨rfl, hb⟩
theorem reads11_walk (b o l c : Nat) (w : World) (q : Nat → Q11) (hl : l ≤ 9223372036854775807) (hc : ∀ i, i < l → RowAt w b (o + i * 6) 6 (ask11V (q i)) ∧ (0 ≤ (q i).w ∧ (q i).w ≤ 4294967295)) :
    Calls Try.prog 15 #[.slice (some ⟨b, o, none⟩) l c] w fun e w' => e = .returned (.bool true) ∧ Below w.heap.size w w' := by
  have H := Lib.hid (op11_walk b o l c w q hl hc 11 (by decide) (by decide))
  go_enter Try.func15, Try.ntmps15
  go_wp2_with fail
  refine H.out.mono ?_
  rintro e w1 ⟨rfl, hb⟩
  go_wp2
  go_ret
  exact ⟨rfl, hb⟩
theorem writes11_empty (a : Option Addr) (cap : Nat) (w : World) :
    Calls Try.prog 16 #[.slice a 0 cap] w fun e w' => e = .returned (.bool true) ∧ Below w.heap.size w w' := by
  have H := Lib.hid (op11_empty a cap 12 w)
  go_enter Try.func16, Try.ntmps16
  go_wp2_with fail
  refine H.out.mono ?_
  rintro e w1 ⟨rfl, hb⟩
  go_wp2
  go_ret
  exact ⟨rfl, hb⟩
theorem writes11_walk (b o l c : Nat) (w : World) (q : Nat → Q11) (hl : l ≤ 9223372036854775807) (hc : ∀ i, i < l → RowAt w b (o + i * 6) 6 (ask11V (q i)) ∧ (0 ≤ (q i).w ∧ (q i).w ≤ 4294967295)) :
    Calls Try.prog 16 #[.slice (some ⟨b, o, none⟩) l c] w fun e w' => e = .returned (.bool true) ∧ Below w.heap.size w w' := by
  have H := Lib.hid (op11_walk b o l c w q hl hc 12 (by decide) (by decide))
  go_enter Try.func16, Try.ntmps16
  go_wp2_with fail
  refine H.out.mono ?_
  rintro e w1 ⟨rfl, hb⟩
  go_wp2
  go_ret
  exact ⟨rfl, hb⟩
theorem invals11_empty (a : Option Addr) (cap : Nat) (w : World) :
    Calls Try.prog 17 #[.slice a 0 cap] w fun e w' => e = .returned (.bool true) ∧ Below w.heap.size w w' := by
  have H := Lib.hid (op11_empty a cap 13 w)
  go_enter Try.func17, Try.ntmps17
  go_wp2_with fail
  refine H.out.mono ?_
  rintro e w1 ⟨rfl, hb⟩
  go_wp2
  go_ret
  exact ⟨rfl, hb⟩
theorem invals11_walk (b o l c : Nat) (w : World) (q : Nat → Q11) (hl : l ≤ 9223372036854775807) (hc : ∀ i, i < l → RowAt w b (o + i * 6) 6 (ask11V (q i)) ∧ (0 ≤ (q i).w ∧ (q i).w ≤ 4294967295)) :
    Calls Try.prog 17 #[.slice (some ⟨b, o, none⟩) l c] w fun e w' => e = .returned (.bool true) ∧ Below w.heap.size w w' := by
  have H := Lib.hid (op11_walk b o l c w q hl hc 13 (by decide) (by decide))
  go_enter Try.func17, Try.ntmps17
  go_wp2_with fail
  refine H.out.mono ?_
  rintro e w1 ⟨rfl, hb⟩
  go_wp2
  go_ret
  exact ⟨rfl, hb⟩
theorem waits11_empty (a : Option Addr) (cap : Nat) (w : World) :
    Calls Try.prog 18 #[.slice a 0 cap] w fun e w' => e = .returned (.bool true) ∧ Below w.heap.size w w' := by
  have H := Lib.hid (op11_empty a cap 14 w)
  go_enter Try.func18, Try.ntmps18
  go_wp2_with fail
  refine H.out.mono ?_
  rintro e w1 ⟨rfl, hb⟩
  go_wp2
  go_ret
  exact ⟨rfl, hb⟩
theorem waits11_walk (b o l c : Nat) (w : World) (q : Nat → Q11) (hl : l ≤ 9223372036854775807) (hc : ∀ i, i < l → RowAt w b (o + i * 6) 6 (ask11V (q i)) ∧ (0 ≤ (q i).w ∧ (q i).w ≤ 4294967295)) :
    Calls Try.prog 18 #[.slice (some ⟨b, o, none⟩) l c] w fun e w' => e = .returned (.bool true) ∧ Below w.heap.size w w' := by
  have H := Lib.hid (op11_walk b o l c w q hl hc 14 (by decide) (by decide))
  go_enter Try.func18, Try.ntmps18
  go_wp2_with fail
  refine H.out.mono ?_
  rintro e w1 ⟨rfl, hb⟩
  go_wp2
  go_ret
  exact ⟨rfl, hb⟩
theorem calls11_empty (a : Option Addr) (cap : Nat) (w : World) :
    Calls Try.prog 19 #[.slice a 0 cap] w fun e w' => e = .returned (.bool true) ∧ Below w.heap.size w w' := by
  have H := Lib.hid (op11_empty a cap 15 w)
  go_enter Try.func19, Try.ntmps19
  go_wp2_with fail
  refine H.out.mono ?_
  rintro e w1 ⟨rfl, hb⟩
  go_wp2
  go_ret
  exact ⟨rfl, hb⟩
theorem calls11_walk (b o l c : Nat) (w : World) (q : Nat → Q11) (hl : l ≤ 9223372036854775807) (hc : ∀ i, i < l → RowAt w b (o + i * 6) 6 (ask11V (q i)) ∧ (0 ≤ (q i).w ∧ (q i).w ≤ 4294967295)) :
    Calls Try.prog 19 #[.slice (some ⟨b, o, none⟩) l c] w fun e w' => e = .returned (.bool true) ∧ Below w.heap.size w w' := by
  have H := Lib.hid (op11_walk b o l c w q hl hc 15 (by decide) (by decide))
  go_enter Try.func19, Try.ntmps19
  go_wp2_with fail
  refine H.out.mono ?_
  rintro e w1 ⟨rfl, hb⟩
  go_wp2
  go_ret
  exact ⟨rfl, hb⟩
theorem backs11_empty (a : Option Addr) (cap : Nat) (w : World) :
    Calls Try.prog 20 #[.slice a 0 cap] w fun e w' => e = .returned (.bool true) ∧ Below w.heap.size w w' := by
  have H := Lib.hid (op11_empty a cap 16 w)
  go_enter Try.func20, Try.ntmps20
  go_wp2_with fail
  refine H.out.mono ?_
  rintro e w1 ⟨rfl, hb⟩
  go_wp2
  go_ret
  exact ⟨rfl, hb⟩
theorem backs11_walk (b o l c : Nat) (w : World) (q : Nat → Q11) (hl : l ≤ 9223372036854775807) (hc : ∀ i, i < l → RowAt w b (o + i * 6) 6 (ask11V (q i)) ∧ (0 ≤ (q i).w ∧ (q i).w ≤ 4294967295)) :
    Calls Try.prog 20 #[.slice (some ⟨b, o, none⟩) l c] w fun e w' => e = .returned (.bool true) ∧ Below w.heap.size w w' := by
  have H := Lib.hid (op11_walk b o l c w q hl hc 16 (by decide) (by decide))
  go_enter Try.func20, Try.ntmps20
  go_wp2_with fail
  refine H.out.mono ?_
  rintro e w1 ⟨rfl, hb⟩
  go_wp2
  go_ret
  exact ⟨rfl, hb⟩
end Go.Proofs.Ytgjmladfeelcnaa
