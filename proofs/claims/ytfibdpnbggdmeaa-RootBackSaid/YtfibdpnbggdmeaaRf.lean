/- The walks of RootWords and RootBack. -/
import Derived.Test.YtfibdpnbggdmeaaRe
import Derived.Test.YtfibdpnbggdmeaaSl
import Derived.Deep.CutBlock
namespace Go.Proofs.Ytfibdpnbggdmeaa
open Go.ChangeShapes Go.WideShapes Go.ChangeAt Go.RowKit Go.Deep

/-- What a question is. -/
structure Q4 where
  r : Rt
  w : BitVec 64
def ask4V (q : Q4) : Array Value := #[.bool q.r.o, .int .i64 q.r.f, .int .i64 q.r.t, .int .u64 (u q.w)]
section
variable {H : Type} {enc : TypeId × Value → H} {w : World} {base : Nat} {held : Bool}
theorem c_root : Try.prog.cellsOf 28 = 3 := by kernel_rfl
theorem c_ask4 : Try.prog.cellsOf 30 = 4 := by kernel_rfl
theorem root_cells {n : Nat} {cs : List Value} {y : DataW H × List MemPlace} (hlen : cs.length = 3) (h : DataW.trod enc Try.prog w base (fun _ => true) held n 28 cs = some y) :
    ∃ r : Rt, cs = [.bool r.o, .int .i64 r.f, .int .i64 r.t] ∧ InI r.f ∧ InI r.t := by
  match cs, hlen with
  | [v0, v1, v2], _ =>
    obtain ⟨_, _, t0⟩ := part_of Try.underlying28 h 0 0 1 4 ⟨_, rfl, rfl, rfl⟩ c_bool
    obtain ⟨_, _, t1⟩ := part_of Try.underlying28 h 1 1 1 3 ⟨_, rfl, rfl, rfl⟩ c_int
    obtain ⟨_, _, t2⟩ := part_of Try.underlying28 h 2 2 1 3 ⟨_, rfl, rfl, rfl⟩ c_int
    obtain ⟨o, h0⟩ := bool_cells t0
    obtain ⟨f, h1, b1⟩ := int_cellI t1
    obtain ⟨t, h2, b2⟩ := int_cellI t2
    simp at h0 h1 h2
    exact ⟨⟨o, f, t⟩, by rw [h0, h1, h2], b1, b2⟩
theorem ask4_cells {n : Nat} {cs : List Value} {y : DataW H × List MemPlace} (hlen : cs.length = 4) (h : DataW.trod enc Try.prog w base (fun _ => true) held n 30 cs = some y) :
    ∃ q : Q4, cs = (ask4V q).toList ∧ InI q.r.f ∧ InI q.r.t := by
  match cs, hlen with
  | [v0, v1, v2, v3], _ =>
    obtain ⟨_, _, t0⟩ := part_of Try.underlying30 h 0 0 3 28 ⟨_, rfl, rfl, rfl⟩ c_root
    obtain ⟨_, _, t1⟩ := part_of Try.underlying30 h 1 3 1 23 ⟨_, rfl, rfl, rfl⟩ c_word
    obtain ⟨r, h0, b0, b1⟩ := root_cells rfl t0
    obtain ⟨x, h1⟩ := word_cells t1
    simp at h0 h1
    obtain ⟨e0, e1, e2⟩ := h0
    exact ⟨⟨r, x⟩, by rw [h1, e0, e1, e2]; rfl, b0, b1⟩
theorem asks4 {n : Nat} {c : Value} {y : DataW H × List MemPlace} (h : DataW.trod enc Try.prog w base (fun _ => true) held n 22 [c] = some y) :
    (∃ (a : Option Addr) (cap : Nat), c = .slice a 0 cap) ∨
    ∃ (b o len cap : Nat) (q : Nat → Q4), c = .slice (some ⟨b, o, none⟩) len cap ∧ len ≤ 9223372036854775807 ∧ ∀ i, i < len → RowAt w b (o + i * 4) 4 (ask4V (q i)) ∧ (InI (q i).r.f ∧ InI (q i).r.t) :=
  rows_of ask4V (fun q => InI q.r.f ∧ InI q.r.t) Try.underlying22 c_ask4 (by decide) (fun hl ht => ask4_cells hl ht) h
end

theorem rwords_empty (a : Option Addr) (cap : Nat) (w : World) :
    Calls Try.prog 3 #[.slice a 0 cap] w fun e w' => e = .returned (.bool true) ∧ Below w.heap.size w w' := by
  go_enter Try.func3, Try.ntmps3
  go_wp2
  refine wp_loop_rounds 1 ?_
  rw [rounds_succ]
  go_wp2_with (go_at_call 11; refine (wakes4_any _).mono ?_; rintro e w' ⟨rfl, hb⟩)
  go_ret
  exact ⟨rfl, hb⟩

set_option maxRecDepth 100000 in
set_option maxHeartbeats 3200000 in
theorem rwords_walk (b off len cap : Nat) (w : World) (q : Nat → Q4) (hc : ∀ i, i < len → RowAt w b (off + i * 4) 4 (ask4V (q i))) :
    Calls Try.prog 3 #[.slice (some ⟨b, off, none⟩) len cap] w fun e w' => e = .returned (.bool true) ∧ Below w.heap.size w w' := by
  have HC := Lib.hid hc
  clear hc
  go_enter Try.func3, Try.ntmps3
  go_wp2
  go_loopw [3] (fun i wr => ∃ k : Nat, k ≤ len ∧ i = .int .i64 k ∧ Below w.heap.size w wr) (fun i _ => len - (intOf i).toNat)
  case atStart => exact ⟨0, Nat.zero_le _, rfl, Below.refl _ _⟩
  case round =>
    obtain ⟨k, hk, rfl, hb⟩ := hrel
    by_cases hlt : k < len ∧ k < 15
    · obtain ⟨hlt, hlt'⟩ := hlt
      have i1 : (0 : Int) ≤ (k : Int) := by omega
      have i2 : (k : Int) < (len : Int) := by omega
      have d15 : decide ((k : Int) < 15) = true := decide_eq_true (by omega)
      have HA := Lib.hid ((HC.out k hlt).below hb)
      generalize q k = qk at *
      obtain ⟨⟨ro, rf, rt⟩, qw⟩ := qk
      have HB0 := Lib.hid hb
      clear hb
      cases hm : mayT ⟨ro, rf, rt⟩
      · cases hi : isT qw
        · have HW := Lib.hid (fun W => rWord_any ro rf rt W false hm 0#64 1 rfl rfl)
          have hWq : u 0#64 = 0 := by decide
          have HV := Lib.hid (fun W => rrootWord_any ro rf rt W)
          have HR := Lib.hid (fun W => rroot_any ro rf rt W)
          rw [hm] at HR
          clear hm
          generalize wordT ⟨ro, rf, rt⟩ = wt at *
          have HO := Lib.hid (fun W => rOf_any qw W false hi _ rfl 9 rfl)
          have HP := Lib.hid (fun W => rrootOf_any qw W false hi _ rfl)
          clear hi
          generalize ofT qw = t at *
          obtain ⟨to', tf, tt⟩ := t
          simp only at HO HP
          have heq : eqT ⟨to', tf, tt⟩ ⟨to', tf, tt⟩ = true := eqT_self _
          have c0 := HA.out.get0 (.bool ro) (by decide) rfl
          have c1 := HA.out.get 1 (.int .i64 rf) (by decide) rfl
          have c2 := HA.out.get 2 (.int .i64 rt) (by decide) rfl
          go_wp2_with fail
          refine (HW.out _).mono ?_
          rintro e w1 ⟨rfl, hb1⟩
          have HA1 := Lib.hid (HA.out.below hb1)
          have B1 := Lib.hid (bel_trans HB0.out hb1)
          clear HA HB0 hb1 c0 c1 c2
          have c0 := HA1.out.get0 (.bool ro) (by decide) rfl
          have c1 := HA1.out.get 1 (.int .i64 rf) (by decide) rfl
          have c2 := HA1.out.get 2 (.int .i64 rt) (by decide) rfl
          go_wp2_with fail
          refine (HR.out _).mono ?_
          rintro e w2 ⟨rfl, hb2⟩
          have HA2 := Lib.hid (HA1.out.below hb2)
          have B2 := Lib.hid (bel_trans B1.out hb2)
          clear HA1 B1 hb2 c0 c1 c2
          have c0 := HA2.out.get0 (.bool ro) (by decide) rfl
          have c1 := HA2.out.get 1 (.int .i64 rf) (by decide) rfl
          have c2 := HA2.out.get 2 (.int .i64 rt) (by decide) rfl
          have c3 := HA2.out.get 3 (.int .u64 (u qw)) (by decide) rfl
          go_wp2_with fail
          refine (HO.out _).mono ?_
          rintro e w5 ⟨rfl, hb5⟩
          have HA5 := Lib.hid ((HA2.out.below hb5).below (bel_alloc (Below.refl _ _) (.cells #[.bool to', .int .i64 tf, .int .i64 tt] 28)))
          have B5 := Lib.hid (bel_alloc (bel_trans B2.out hb5) (.cells #[.bool to', .int .i64 tf, .int .i64 tt] 28))
          have X5 := Lib.hid (BoxAt.new w5 #[.bool to', .int .i64 tf, .int .i64 tt] 28)
          clear HA2 B2 hb5 c0 c1 c2 c3
          have c3 := HA5.out.get 3 (.int .u64 (u qw)) (by decide) rfl
          go_wp2_with fail
          refine (HP.out _).mono ?_
          rintro e w6 ⟨rfl, hb6⟩
          have X6 := X5.out.below hb6
          have X7 := X6.alloc (.cells #[.bool to', .int .i64 tf, .int .i64 tt] 28)
          have Y7 := BoxAt.new w6 #[.bool to', .int .i64 tf, .int .i64 tt] 28
          have B7 := Lib.hid (bel_alloc (bel_trans B5.out hb6) (.cells #[.bool to', .int .i64 tf, .int .i64 tt] 28))
          clear X5 X6 HA5 B5 hb6 c3
          have x0 := X7.get 0 (.bool to') rfl
          have x1 := X7.get 1 (.int .i64 tf) rfl
          have x2 := X7.get 2 (.int .i64 tt) rfl
          have y0 := Y7.get 0 (.bool to') rfl
          have y1 := Y7.get 1 (.int .i64 tf) rfl
          have y2 := Y7.get 2 (.int .i64 tt) rfl
          clear X7 Y7
          go_wp2_with (first | (go_at_call 10; refine (lnum4_any _ _).mono ?_; rintro e w8 ⟨rfl, rfl⟩))
          go_roundw
          case rel => exact ⟨k + 1, by omega, by go_num, B7.out⟩
          case measure => simp [intOf]; omega
        · have HW := Lib.hid (fun W => rWord_any ro rf rt W false hm 0#64 1 rfl rfl)
          have hWq : u 0#64 = 0 := by decide
          have HV := Lib.hid (fun W => rrootWord_any ro rf rt W)
          have HR := Lib.hid (fun W => rroot_any ro rf rt W)
          rw [hm] at HR
          clear hm
          generalize wordT ⟨ro, rf, rt⟩ = wt at *
          have HO := Lib.hid (fun W => rOf_any qw W true hi _ rfl 0 rfl)
          have HP := Lib.hid (fun W => rrootOf_any qw W true hi _ rfl)
          clear hi
          generalize ofT qw = t at *
          obtain ⟨to', tf, tt⟩ := t
          simp only at HO HP
          have heq : eqT ⟨to', tf, tt⟩ ⟨to', tf, tt⟩ = true := eqT_self _
          have c0 := HA.out.get0 (.bool ro) (by decide) rfl
          have c1 := HA.out.get 1 (.int .i64 rf) (by decide) rfl
          have c2 := HA.out.get 2 (.int .i64 rt) (by decide) rfl
          go_wp2_with fail
          refine (HW.out _).mono ?_
          rintro e w1 ⟨rfl, hb1⟩
          have HA1 := Lib.hid (HA.out.below hb1)
          have B1 := Lib.hid (bel_trans HB0.out hb1)
          clear HA HB0 hb1 c0 c1 c2
          have c0 := HA1.out.get0 (.bool ro) (by decide) rfl
          have c1 := HA1.out.get 1 (.int .i64 rf) (by decide) rfl
          have c2 := HA1.out.get 2 (.int .i64 rt) (by decide) rfl
          go_wp2_with fail
          refine (HR.out _).mono ?_
          rintro e w2 ⟨rfl, hb2⟩
          have HA2 := Lib.hid (HA1.out.below hb2)
          have B2 := Lib.hid (bel_trans B1.out hb2)
          clear HA1 B1 hb2 c0 c1 c2
          have c0 := HA2.out.get0 (.bool ro) (by decide) rfl
          have c1 := HA2.out.get 1 (.int .i64 rf) (by decide) rfl
          have c2 := HA2.out.get 2 (.int .i64 rt) (by decide) rfl
          have c3 := HA2.out.get 3 (.int .u64 (u qw)) (by decide) rfl
          go_wp2_with fail
          refine (HO.out _).mono ?_
          rintro e w5 ⟨rfl, hb5⟩
          have HA5 := Lib.hid ((HA2.out.below hb5).below (bel_alloc (Below.refl _ _) (.cells #[.bool to', .int .i64 tf, .int .i64 tt] 28)))
          have B5 := Lib.hid (bel_alloc (bel_trans B2.out hb5) (.cells #[.bool to', .int .i64 tf, .int .i64 tt] 28))
          have X5 := Lib.hid (BoxAt.new w5 #[.bool to', .int .i64 tf, .int .i64 tt] 28)
          clear HA2 B2 hb5 c0 c1 c2 c3
          have c3 := HA5.out.get 3 (.int .u64 (u qw)) (by decide) rfl
          go_wp2_with fail
          refine (HP.out _).mono ?_
          rintro e w6 ⟨rfl, hb6⟩
          have X6 := X5.out.below hb6
          have X7 := X6.alloc (.cells #[.bool to', .int .i64 tf, .int .i64 tt] 28)
          have Y7 := BoxAt.new w6 #[.bool to', .int .i64 tf, .int .i64 tt] 28
          have B7 := Lib.hid (bel_alloc (bel_trans B5.out hb6) (.cells #[.bool to', .int .i64 tf, .int .i64 tt] 28))
          clear X5 X6 HA5 B5 hb6 c3
          have x0 := X7.get 0 (.bool to') rfl
          have x1 := X7.get 1 (.int .i64 tf) rfl
          have x2 := X7.get 2 (.int .i64 tt) rfl
          have y0 := Y7.get 0 (.bool to') rfl
          have y1 := Y7.get 1 (.int .i64 tf) rfl
          have y2 := Y7.get 2 (.int .i64 tt) rfl
          clear X7 Y7
          go_wp2_with (first | (go_at_call 10; refine (lnum4_any _ _).mono ?_; rintro e w8 ⟨rfl, rfl⟩))
          go_roundw
          case rel => exact ⟨k + 1, by omega, by go_num, B7.out⟩
          case measure => simp [intOf]; omega
      · cases hi : isT qw
        · have HW := Lib.hid (fun W => rWord_any ro rf rt W true hm (wordT ⟨ro, rf, rt⟩) 0 rfl rfl)
          have HV := Lib.hid (fun W => rrootWord_any ro rf rt W)
          have HR := Lib.hid (fun W => rroot_any ro rf rt W)
          rw [hm] at HR
          clear hm
          generalize wordT ⟨ro, rf, rt⟩ = wt at *
          have HO := Lib.hid (fun W => rOf_any qw W false hi _ rfl 9 rfl)
          have HP := Lib.hid (fun W => rrootOf_any qw W false hi _ rfl)
          clear hi
          generalize ofT qw = t at *
          obtain ⟨to', tf, tt⟩ := t
          simp only at HO HP
          have heq : eqT ⟨to', tf, tt⟩ ⟨to', tf, tt⟩ = true := eqT_self _
          have c0 := HA.out.get0 (.bool ro) (by decide) rfl
          have c1 := HA.out.get 1 (.int .i64 rf) (by decide) rfl
          have c2 := HA.out.get 2 (.int .i64 rt) (by decide) rfl
          go_wp2_with fail
          refine (HW.out _).mono ?_
          rintro e w1 ⟨rfl, hb1⟩
          have HA1 := Lib.hid (HA.out.below hb1)
          have B1 := Lib.hid (bel_trans HB0.out hb1)
          clear HA HB0 hb1 c0 c1 c2
          have c0 := HA1.out.get0 (.bool ro) (by decide) rfl
          have c1 := HA1.out.get 1 (.int .i64 rf) (by decide) rfl
          have c2 := HA1.out.get 2 (.int .i64 rt) (by decide) rfl
          go_wp2_with fail
          refine (HR.out _).mono ?_
          rintro e w2 ⟨rfl, hb2⟩
          have HA2 := Lib.hid (HA1.out.below hb2)
          have B2 := Lib.hid (bel_trans B1.out hb2)
          clear HA1 B1 hb2 c0 c1 c2
          have c0 := HA2.out.get0 (.bool ro) (by decide) rfl
          have c1 := HA2.out.get 1 (.int .i64 rf) (by decide) rfl
          have c2 := HA2.out.get 2 (.int .i64 rt) (by decide) rfl
          go_wp2_with fail
          refine (HV.out _).mono ?_
          rintro e w3 ⟨rfl, hb3⟩
          have HA3 := Lib.hid (HA2.out.below hb3)
          have B3 := Lib.hid (bel_trans B2.out hb3)
          clear HA2 B2 hb3 c0 c1 c2
          have c0 := HA3.out.get0 (.bool ro) (by decide) rfl
          have c1 := HA3.out.get 1 (.int .i64 rf) (by decide) rfl
          have c2 := HA3.out.get 2 (.int .i64 rt) (by decide) rfl
          have c3 := HA3.out.get 3 (.int .u64 (u qw)) (by decide) rfl
          go_wp2_with fail
          refine (HO.out _).mono ?_
          rintro e w5 ⟨rfl, hb5⟩
          have HA5 := Lib.hid ((HA3.out.below hb5).below (bel_alloc (Below.refl _ _) (.cells #[.bool to', .int .i64 tf, .int .i64 tt] 28)))
          have B5 := Lib.hid (bel_alloc (bel_trans B3.out hb5) (.cells #[.bool to', .int .i64 tf, .int .i64 tt] 28))
          have X5 := Lib.hid (BoxAt.new w5 #[.bool to', .int .i64 tf, .int .i64 tt] 28)
          clear HA3 B3 hb5 c0 c1 c2 c3
          have c3 := HA5.out.get 3 (.int .u64 (u qw)) (by decide) rfl
          go_wp2_with fail
          refine (HP.out _).mono ?_
          rintro e w6 ⟨rfl, hb6⟩
          have X6 := X5.out.below hb6
          have X7 := X6.alloc (.cells #[.bool to', .int .i64 tf, .int .i64 tt] 28)
          have Y7 := BoxAt.new w6 #[.bool to', .int .i64 tf, .int .i64 tt] 28
          have B7 := Lib.hid (bel_alloc (bel_trans B5.out hb6) (.cells #[.bool to', .int .i64 tf, .int .i64 tt] 28))
          clear X5 X6 HA5 B5 hb6 c3
          have x0 := X7.get 0 (.bool to') rfl
          have x1 := X7.get 1 (.int .i64 tf) rfl
          have x2 := X7.get 2 (.int .i64 tt) rfl
          have y0 := Y7.get 0 (.bool to') rfl
          have y1 := Y7.get 1 (.int .i64 tf) rfl
          have y2 := Y7.get 2 (.int .i64 tt) rfl
          clear X7 Y7
          go_wp2_with (first | (go_at_call 10; refine (lnum4_any _ _).mono ?_; rintro e w8 ⟨rfl, rfl⟩))
          go_roundw
          case rel => exact ⟨k + 1, by omega, by go_num, B7.out⟩
          case measure => simp [intOf]; omega
        · have HW := Lib.hid (fun W => rWord_any ro rf rt W true hm (wordT ⟨ro, rf, rt⟩) 0 rfl rfl)
          have HV := Lib.hid (fun W => rrootWord_any ro rf rt W)
          have HR := Lib.hid (fun W => rroot_any ro rf rt W)
          rw [hm] at HR
          clear hm
          generalize wordT ⟨ro, rf, rt⟩ = wt at *
          have HO := Lib.hid (fun W => rOf_any qw W true hi _ rfl 0 rfl)
          have HP := Lib.hid (fun W => rrootOf_any qw W true hi _ rfl)
          clear hi
          generalize ofT qw = t at *
          obtain ⟨to', tf, tt⟩ := t
          simp only at HO HP
          have heq : eqT ⟨to', tf, tt⟩ ⟨to', tf, tt⟩ = true := eqT_self _
          have c0 := HA.out.get0 (.bool ro) (by decide) rfl
          have c1 := HA.out.get 1 (.int .i64 rf) (by decide) rfl
          have c2 := HA.out.get 2 (.int .i64 rt) (by decide) rfl
          go_wp2_with fail
          refine (HW.out _).mono ?_
          rintro e w1 ⟨rfl, hb1⟩
          have HA1 := Lib.hid (HA.out.below hb1)
          have B1 := Lib.hid (bel_trans HB0.out hb1)
          clear HA HB0 hb1 c0 c1 c2
          have c0 := HA1.out.get0 (.bool ro) (by decide) rfl
          have c1 := HA1.out.get 1 (.int .i64 rf) (by decide) rfl
          have c2 := HA1.out.get 2 (.int .i64 rt) (by decide) rfl
          go_wp2_with fail
          refine (HR.out _).mono ?_
          rintro e w2 ⟨rfl, hb2⟩
          have HA2 := Lib.hid (HA1.out.below hb2)
          have B2 := Lib.hid (bel_trans B1.out hb2)
          clear HA1 B1 hb2 c0 c1 c2
          have c0 := HA2.out.get0 (.bool ro) (by decide) rfl
          have c1 := HA2.out.get 1 (.int .i64 rf) (by decide) rfl
          have c2 := HA2.out.get 2 (.int .i64 rt) (by decide) rfl
          go_wp2_with fail
          refine (HV.out _).mono ?_
          rintro e w3 ⟨rfl, hb3⟩
          have HA3 := Lib.hid (HA2.out.below hb3)
          have B3 := Lib.hid (bel_trans B2.out hb3)
          clear HA2 B2 hb3 c0 c1 c2
          have c0 := HA3.out.get0 (.bool ro) (by decide) rfl
          have c1 := HA3.out.get 1 (.int .i64 rf) (by decide) rfl
          have c2 := HA3.out.get 2 (.int .i64 rt) (by decide) rfl
          have c3 := HA3.out.get 3 (.int .u64 (u qw)) (by decide) rfl
          go_wp2_with fail
          refine (HO.out _).mono ?_
          rintro e w5 ⟨rfl, hb5⟩
          have HA5 := Lib.hid ((HA3.out.below hb5).below (bel_alloc (Below.refl _ _) (.cells #[.bool to', .int .i64 tf, .int .i64 tt] 28)))
          have B5 := Lib.hid (bel_alloc (bel_trans B3.out hb5) (.cells #[.bool to', .int .i64 tf, .int .i64 tt] 28))
          have X5 := Lib.hid (BoxAt.new w5 #[.bool to', .int .i64 tf, .int .i64 tt] 28)
          clear HA3 B3 hb5 c0 c1 c2 c3
          have c3 := HA5.out.get 3 (.int .u64 (u qw)) (by decide) rfl
          go_wp2_with fail
          refine (HP.out _).mono ?_
          rintro e w6 ⟨rfl, hb6⟩
          have X6 := X5.out.below hb6
          have X7 := X6.alloc (.cells #[.bool to', .int .i64 tf, .int .i64 tt] 28)
          have Y7 := BoxAt.new w6 #[.bool to', .int .i64 tf, .int .i64 tt] 28
          have B7 := Lib.hid (bel_alloc (bel_trans B5.out hb6) (.cells #[.bool to', .int .i64 tf, .int .i64 tt] 28))
          clear X5 X6 HA5 B5 hb6 c3
          have x0 := X7.get 0 (.bool to') rfl
          have x1 := X7.get 1 (.int .i64 tf) rfl
          have x2 := X7.get 2 (.int .i64 tt) rfl
          have y0 := Y7.get 0 (.bool to') rfl
          have y1 := Y7.get 1 (.int .i64 tf) rfl
          have y2 := Y7.get 2 (.int .i64 tt) rfl
          clear X7 Y7
          go_wp2_with (first | (go_at_call 10; refine (lnum4_any _ _).mono ?_; rintro e w8 ⟨rfl, rfl⟩))
          go_roundw
          case rel => exact ⟨k + 1, by omega, by go_num, B7.out⟩
          case measure => simp [intOf]; omega
    · by_cases hq : k < len
      · have hq' : ¬ (k < 15) := by omega
        go_wp2_with (go_at_call 11; refine (wakes4_any _).mono ?_; rintro e w1 ⟨rfl, hb1⟩)
        go_ret
        exact ⟨rfl, bel_trans hb hb1⟩
      · go_wp2_with (go_at_call 11; refine (wakes4_any _).mono ?_; rintro e w1 ⟨rfl, hb1⟩)
        go_ret
        exact ⟨rfl, bel_trans hb hb1⟩

theorem rback_empty (a : Option Addr) (cap : Nat) (w : World) :
    Calls Try.prog 4 #[.slice a 0 cap] w fun e w' => e = .returned (.bool true) ∧ Below w.heap.size w w' := by
  go_enter Try.func4, Try.ntmps4
  go_wp2
  refine wp_loop_rounds 1 ?_
  rw [rounds_succ]
  go_wp2_with (go_at_call 11; refine (wakes4_any _).mono ?_; rintro e w' ⟨rfl, hb⟩)
  go_ret
  exact ⟨rfl, hb⟩
theorem one_shl (k : Nat) : IntKind.u64.wrap (2 ^ k) = u (1#64 <<< k) := by rw [← u_shl, show u 1#64 = 1 from by decide, Int.one_mul]

set_option maxRecDepth 100000 in
set_option maxHeartbeats 6400000 in
theorem rback_walk (b off len cap : Nat) (w : World) (q : Nat → Q4) (hc : ∀ i, i < len → RowAt w b (off + i * 4) 4 (ask4V (q i))) :
    Calls Try.prog 4 #[.slice (some ⟨b, off, none⟩) len cap] w fun e w' => e = .returned (.bool true) ∧ Below w.heap.size w w' := by
  have HC := Lib.hid hc
  clear hc
  go_enter Try.func4, Try.ntmps4
  go_wp2
  go_loopw [3] (fun i wr => ∃ k : Nat, k ≤ len ∧ i = .int .i64 k ∧ Below w.heap.size w wr) (fun i _ => len - (intOf i).toNat)
  case atStart => exact ⟨0, Nat.zero_le _, rfl, Below.refl _ _⟩
  case round =>
    obtain ⟨k, hk, rfl, hb⟩ := hrel
    by_cases hlt : k < len ∧ k < 15
    · obtain ⟨hlt, hlt'⟩ := hlt
      have i1 : (0 : Int) ≤ (k : Int) := by omega
      have i2 : (k : Int) < (len : Int) := by omega
      have d15 : decide ((k : Int) < 15) = true := decide_eq_true (by omega)
      have HA := Lib.hid ((HC.out k hlt).below hb)
      generalize q k = qk at *
      obtain ⟨⟨ro, rf, rt⟩, qw⟩ := qk
      have HB0 := Lib.hid hb
      clear hb
      have c0 := HA.out.get0 (.bool ro) (by decide) rfl
      have c1 := HA.out.get 1 (.int .i64 rf) (by decide) rfl
      have c2 := HA.out.get 2 (.int .i64 rt) (by decide) rfl
      cases hm : mayT ⟨ro, rf, rt⟩
      · have HW := Lib.hid (fun W => rWord_any ro rf rt W false hm 0#64 1 rfl rfl)
        clear hm
        go_wp2_with (first | (go_at_call 5; refine (HW.out _).mono ?_; rintro e w1 ⟨rfl, hb1⟩) | (go_at_call 10; refine (lnum4_any _ _).mono ?_; rintro e w8 ⟨rfl, rfl⟩))
        go_roundw
        case rel => exact ⟨k + 1, by omega, by go_num, bel_trans HB0.out hb1⟩
        case measure => simp [intOf]; omega
      · have HW := Lib.hid (fun W => rWord_any ro rf rt W true hm (wordT ⟨ro, rf, rt⟩) 0 rfl rfl)
        have HO := Lib.hid (fun W => rOf_any (wordT ⟨ro, rf, rt⟩) W true (isT_word _ hm) ⟨ro, rf, rt⟩ (by unfold ofT; rw [if_pos (isT_word _ hm), read_wordT _ hm]) 0 rfl)
        have HP := Lib.hid (fun (j : Nat) (hj : offT j = true) W => rOf_any (wordT ⟨ro, rf, rt⟩ ||| 1#64 <<< j) W false (isT_off _ j hj) rz (by unfold ofT; rw [isT_off _ j hj]; rfl) 9 rfl)
        clear hm
        generalize wordT ⟨ro, rf, rt⟩ = wt at *
        simp only at HO
        have heq : eqT ⟨ro, rf, rt⟩ ⟨ro, rf, rt⟩ = true := eqT_self _
        go_wp2_with fail
        refine (HW.out _).mono ?_
        rintro e w1 ⟨rfl, hb1⟩
        have HA1 := Lib.hid (HA.out.below hb1)
        have B1 := Lib.hid (bel_trans HB0.out hb1)
        clear HA HB0 hb1 c0 c1 c2
        go_wp2_with fail
        refine (lnum4_any _ _).mono ?_
        rintro e w2 ⟨rfl, rfl⟩
        go_wp2_with fail
        refine (HO.out _).mono ?_
        rintro e w5 ⟨rfl, hb5⟩
        have HA5 := Lib.hid ((HA1.out.below hb5).below (bel_alloc (Below.refl _ _) (.cells #[.bool ro, .int .i64 rf, .int .i64 rt] 28)))
        have B5 := Lib.hid (bel_alloc (bel_trans B1.out hb5) (.cells #[.bool ro, .int .i64 rf, .int .i64 rt] 28))
        have X5 := BoxAt.new w5 #[.bool ro, .int .i64 rf, .int .i64 rt] 28
        clear HA1 B1 hb5
        have c0 := HA5.out.get0 (.bool ro) (by decide) rfl
        have c1 := HA5.out.get 1 (.int .i64 rf) (by decide) rfl
        have c2 := HA5.out.get 2 (.int .i64 rt) (by decide) rfl
        have x0 := X5.get 0 (.bool ro) rfl
        have x1 := X5.get 1 (.int .i64 rf) rfl
        have x2 := X5.get 2 (.int .i64 rt) rfl
        clear X5 HA5
        go_wp2_with fail
        go_quiet ((go_at_call 10; exact Calls.quiet_of_same (same (lnum4_any _ _))))
        go_wp2_with fail
        clear c0 c1 c2 x0 x1 x2
        obtain ⟨wy, hwy⟩ : ∃ wy, wy = (w5.alloc (.cells #[.bool ro, .int .i64 rf, .int .i64 rt] 28)).drewN nq := ⟨_, rfl⟩
        have BD := Lib.hid (below_drewN B5.out nq)
        rw [← hwy] at BD ⊢
        clear hwy B5 heq HW HO
        go_loopw [8] (fun i wi => ∃ j : Int, 1 ≤ j ∧ j ≤ 64 ∧ i = .int .i64 j ∧ Below w.heap.size w wi) (fun i _ => 64 - (intOf i).toNat)
        case atStart => exact ⟨1, by decide, by decide, rfl, BD.out⟩
        case round =>
          obtain ⟨j, hj1, hj2, rfl, hb⟩ := hrel
          by_cases hj : j < 64
          · have hs : IntKind.u64.wrap (2 ^ j.toNat) = u (1#64 <<< j.toNat) := one_shl _
            have hB := Lib.hid hb
            clear hb
            have hc : (j < 12 ∧ offT j.toNat = true) ∨ (12 ≤ j ∧ j < 24) ∨ (24 ≤ j ∧ j < 48 ∧ offT j.toNat = true) ∨ (48 ≤ j ∧ j < 52) ∨ (52 ≤ j ∧ offT j.toNat = true) := by
              unfold offT
              simp only [decide_eq_true_eq]
              omega
            have e64 : decide (j < 64) = true := decide_eq_true hj
            rcases hc with ⟨q1, ho⟩ | ⟨q1, q2⟩ | ⟨q1, q2, ho⟩ | ⟨q1, q2⟩ | ⟨q1, ho⟩
            · have d1 : decide (12 ≤ j) = false := decide_eq_false (by omega)
              have d2 : decide (48 ≤ j) = false := decide_eq_false (by omega)
              have HX := Lib.hid (HP.out j.toNat ho)
              clear ho
              go_wp2_with (first | (go_at_call 8; refine (HX.out _).mono ?_; rintro e w7 ⟨rfl, hb7⟩) | (go_at_call 10; refine (lnum4_any _ _).mono ?_; rintro e w8 ⟨rfl, rfl⟩))
              go_roundw
              case rel => exact ⟨j + 1, by omega, by omega, rfl, bel_alloc (bel_trans hB.out hb7) _⟩
              case measure => simp [intOf]; omega
            · have d1 : decide (12 ≤ j) = true := decide_eq_true (by omega)
              have d2 : decide (j < 24) = true := decide_eq_true (by omega)
              go_wp2
              go_roundw
              case rel => exact ⟨j + 1, by omega, by omega, rfl, hB.out⟩
              case measure => simp [intOf]; omega
            · have d1 : decide (12 ≤ j) = true := decide_eq_true (by omega)
              have d2 : decide (j < 24) = false := decide_eq_false (by omega)
              have d3 : decide (48 ≤ j) = false := decide_eq_false (by omega)
              have HX := Lib.hid (HP.out j.toNat ho)
              clear ho
              go_wp2_with (first | (go_at_call 8; refine (HX.out _).mono ?_; rintro e w7 ⟨rfl, hb7⟩) | (go_at_call 10; refine (lnum4_any _ _).mono ?_; rintro e w8 ⟨rfl, rfl⟩))
              go_roundw
              case rel => exact ⟨j + 1, by omega, by omega, rfl, bel_alloc (bel_trans hB.out hb7) _⟩
              case measure => simp [intOf]; omega
            · have d1 : decide (12 ≤ j) = true := decide_eq_true (by omega)
              have d2 : decide (j < 24) = false := decide_eq_false (by omega)
              have d3 : decide (48 ≤ j) = true := decide_eq_true (by omega)
              have d4 : decide (j < 52) = true := decide_eq_true (by omega)
              go_wp2
              go_roundw
              case rel => exact ⟨j + 1, by omega, by omega, rfl, hB.out⟩
              case measure => simp [intOf]; omega
            · have d1 : decide (12 ≤ j) = true := decide_eq_true (by omega)
              have d2 : decide (j < 24) = false := decide_eq_false (by omega)
              have d3 : decide (48 ≤ j) = true := decide_eq_true (by omega)
              have d4 : decide (j < 52) = false := decide_eq_false (by omega)
              have HX := Lib.hid (HP.out j.toNat ho)
              clear ho
              go_wp2_with (first | (go_at_call 8; refine (HX.out _).mono ?_; rintro e w7 ⟨rfl, hb7⟩) | (go_at_call 10; refine (lnum4_any _ _).mono ?_; rintro e w8 ⟨rfl, rfl⟩))
              go_roundw
              case rel => exact ⟨j + 1, by omega, by omega, rfl, bel_alloc (bel_trans hB.out hb7) _⟩
              case measure => simp [intOf]; omega
          · have e64 : decide (j < 64) = false := decide_eq_false hj
            have hB := Lib.hid hb
            clear hb
            go_wp2
            go_roundw
            case rel => exact ⟨k + 1, by omega, by go_num, hB.out⟩
            case measure => simp [intOf]; omega
    · by_cases hq : k < len
      · have hq' : ¬ (k < 15) := by omega
        go_wp2_with (go_at_call 11; refine (wakes4_any _).mono ?_; rintro e w1 ⟨rfl, hb1⟩)
        go_ret
        exact ⟨rfl, bel_trans hb hb1⟩
      · go_wp2_with (go_at_call 11; refine (wakes4_any _).mono ?_; rintro e w1 ⟨rfl, hb1⟩)
        go_ret
        exact ⟨rfl, bel_trans hb hb1⟩
end Go.Proofs.Ytfibdpnbggdmeaa
