/- The walk of the law's sizes, MemExact's contract given. -/
import Derived.Test.YtpnkhijbfnnggaaExactM
namespace Go.Proofs.Ytpnkhijbfnnggaa
open Go.ChangeShapes Go.WideShapes Go.ChangeAt Go.RowKit Go.Deep

/-- MemExact's contract. -/
def ExactHolds : Prop := ∀ (f g : Option Addr) (l cap n d : Nat) (X : Nat → BitVec 64) (A : Nat → ActV) (w : World), l ≤ 1000000000000000 → n ≤ 1000000000000000 → WordsAt w f l X → ActsAt w g n A →
    Calls Try.prog 3 #[.agg #[.slice f l cap, .slice g n d]] w fun e w' => e = .returned (.bool true) ∧ Below w.heap.size w w'

def cellA (x : ActV) : Nat → Value
  | 0 => .int .i64 x.d
  | 1 => .int .i64 x.a
  | 2 => .int .i64 x.s
  | 3 => .int .u64 (u x.v)
  | _ => .slice x.f x.l x.c
def acells (B : Nat → ActV) (k : Nat) : List Value := (List.range (k * 5)).map fun t => cellA (B (t / 5)) (t % 5)
theorem acells_length (B : Nat → ActV) (k : Nat) : (acells B k).length = k * 5 := by simp [acells]
theorem acells_get (B : Nat → ActV) (k t : Nat) (h : t < k * 5) : (acells B k)[t]? = some (cellA (B (t / 5)) (t % 5)) := by simp [acells, h]
theorem acells_none (B : Nat → ActV) (k t : Nat) (h : k * 5 ≤ t) : (acells B k)[t]? = none := by simp [acells, h]
theorem acells_succ (B : Nat → ActV) (k : Nat) : acells B k ++ [cellA (B k) 0, cellA (B k) 1, cellA (B k) 2, cellA (B k) 3, cellA (B k) 4] = acells B (k + 1) := by
  apply List.ext_getElem?
  intro t
  by_cases h1 : t < k * 5
  · rw [List.getElem?_append_left (by rw [acells_length]; exact h1), acells_get B k t h1, acells_get B (k + 1) t (by omega)]
  · rw [List.getElem?_append_right (by rw [acells_length]; omega), acells_length]
    by_cases h2 : t < (k + 1) * 5
    · rw [acells_get B (k + 1) t h2, show t / 5 = k from by omega]
      obtain ⟨r, rfl⟩ : ∃ r, t = k * 5 + r := ⟨t - k * 5, by omega⟩
      rw [show k * 5 + r - k * 5 = r from by omega, show (k * 5 + r) % 5 = r from by omega]
      have : r = 0 ∨ r = 1 ∨ r = 2 ∨ r = 3 ∨ r = 4 := by omega
      rcases this with rfl | rfl | rfl | rfl | rfl <;> rfl
    · rw [acells_none B (k + 1) t (by omega)]
      simp
      omega

theorem infoA : (Try.prog.info? 33).map (fun i => (i.zero, i.size, i.bytes)) = some (some (.agg #[.int .i64 0, .int .i64 0, .int .i64 0, .int .u64 0, .slice none 0 0]), 5, 56) := by kernel_rfl

/-- A slice of acts in a block of the call's own. -/
def OwnA (w : World) (base : Nat) (v : Value) (n : Nat) (B : Nat → ActV) : Prop := w.ownsRow base 33 5 v n (acells B n)
theorem OwnA.nil (w : World) (base : Nat) (B : Nat → ActV) : OwnA w base (.slice none 0 0) 0 B := World.ownsRow_nil w base 33 5
theorem OwnA.below {w w' : World} {base : Nat} {v : Value} {n : Nat} {B : Nat → ActV} (h : OwnA w base v n B) (hb : Below w.heap.size w w') : OwnA w' base v n B := by
  refine ⟨h.1, ?_⟩
  rcases h.2 with hn | ⟨g, cap, cur, rfl, hbg, hgg, rest⟩
  · exact .inl hn
  · exact .inr ⟨g, cap, cur, rfl, hbg, (hb.block g (Array.getElem?_eq_some_iff.1 hgg).1).trans hgg, rest⟩
theorem OwnA.other {w : World} {base : Nat} {v : Value} {n : Nat} {B : Nat → ActV} (h : OwnA w base v n B) (b o : Nat) (y : Value) (hb : b < base) : OwnA (w.setCell ⟨b, o, none⟩ y) base v n B := by
  refine ⟨h.1, ?_⟩
  rcases h.2 with hn | ⟨g, cap, cur, rfl, hbg, hgg, rest⟩
  · exact .inl hn
  · exact .inr ⟨g, cap, cur, rfl, hbg, (Below.heap_setCell w ⟨b, o, none⟩ y g (by simp only; omega)).trans hgg, rest⟩
theorem OwnA.form {w : World} {base : Nat} {v : Value} {n : Nat} {B : Nat → ActV} (h : OwnA w base v n B) : ∃ f c, v = .slice f n c := by
  rcases h.2 with ⟨rfl, rfl⟩ | ⟨g, cap, cur, rfl, _⟩
  · exact ⟨none, 0, rfl⟩
  · exact ⟨_, cap, rfl⟩
theorem OwnA.acts {w : World} {base : Nat} {f : Option Addr} {n c : Nat} {B : Nat → ActV} (h : OwnA w base (.slice f n c) n B) (hx : ∀ i, i < n → NumsAt w (B i).f (B i).l (B i).N ∧ (B i).l ≤ 1000000000000000 ∧ (B i).a ≤ 9223372036854775807 ∧ -9223372036854775808 ≤ (B i).a) : ActsAt w f n B := by
  intro i hi
  rcases h.2 with ⟨hv, rfl⟩ | ⟨g, cap, cur, hv, _, _⟩
  · omega
  · simp only [Value.slice.injEq, true_and] at hv
    obtain ⟨rfl, rfl⟩ := hv
    have hc : ∀ t, t < 5 → w.cell? ⟨g, 0 + i * 5 + t, none⟩ = some (cellA (B i) t) := by
      intro t ht
      have := World.ownsRow.cellAt h (i * 5 + t) (by omega)
      rw [acells_get B n _ (by omega), show (i * 5 + t) / 5 = i from by omega, show (i * 5 + t) % 5 = t from by omega] at this
      rw [show 0 + i * 5 + t = i * 5 + t from by omega]
      exact this
    obtain ⟨x1, x2, x3, x4⟩ := hx i hi
    exact ⟨g, 0, rfl, hc 0 (by omega), hc 1 (by omega), hc 2 (by omega), hc 3 (by omega), hc 4 (by omega), x1, x2, x3, x4⟩

/-- 'append(s, x)' of one act onto a slice of the call's own. -/
theorem wpList_pushA {w : World} {ops : Array Oper} {rest : List Oper} {o : Oper} {a : Act} {Q : Exit → Act → World → Prop} (hgd : o.guard = none) (s x : Operand)
    (ho : o.op = .call { callee := .builtin .append, args := #[s, x], argTypes := #[25, 25] })
    (base : Nat) (v : Value) (k : Nat) (B : Nat → ActV) (hs : a.eval s = v) (hown : OwnA w base v k B)
    (b c : Nat) (hx : a.eval x = .slice (some ⟨b, 0, none⟩) 1 c) (hy : ∀ t, t < 5 → w.cell? ⟨b, t, none⟩ = some (cellA (B k) t)) (hk : k ≤ 100000) (hbase : base ≤ w.heap.size)
    (h : ∀ f' c' w', OwnA w' base (.slice f' (k + 1) c') (k + 1) B → Below base w w' → wpList Try.prog ops Q rest (a.put o.dst (.slice f' (k + 1) c')) w') : wpList Try.prog ops Q (o :: rest) a w := by
  obtain ⟨i0, hi, hz0, hz1, hz2⟩ := info_parts infoA
  refine wpList_append_own _ hgd s x 25 ho base 33 i0 _ 5 56 Try.underlying25 hi hz0 hz1 hz2 rfl (by decide) _ k (acells B k) hs hown _ 1 c [cellA (B k) 0, cellA (B k) 1, cellA (B k) 2, cellA (B k) 3, cellA (B k) 4] hx rfl ?_ (by intro v hv; simp at hv; rcases hv with rfl | rfl | rfl | rfl | rfl <;> rfl)
    (by unfold maxLen; omega) (by omega) hbase ?_
  · intro t v hv
    rw [add_none, Nat.zero_add]
    match t, hv with
    | 0, hv => simp at hv; subst hv; exact hy 0 (by omega)
    | 1, hv => simp at hv; subst hv; exact hy 1 (by omega)
    | 2, hv => simp at hv; subst hv; exact hy 2 (by omega)
    | 3, hv => simp at hv; subst hv; exact hy 3 (by omega)
    | 4, hv => simp at hv; subst hv; exact hy 4 (by omega)
    | t + 5, hv => simp at hv
  · intro v' w' hown' hgrow _
    have hO : OwnA w' base v' (k + 1) B := by
      unfold OwnA
      rw [← acells_succ]
      exact hown'
    have hB : Below base w w' := (Below.refl base w).grown hgrow hbase (fun j hj => (World.ownsRow.lt hown j hj).1)
    obtain ⟨f', c', rfl⟩ := hO.form
    exact h _ _ _ hO hB

theorem Loc.beside {w : World} {b o : Nat} {x : Value} (h : Loc w b o x) (o' : Nat) (y : Value) (hne : o' ≠ o) : Loc (w.setCell ⟨b, o', none⟩ y) b o x :=
  ⟨(World.cell?_setCell_other w ⟨b, o', none⟩ ⟨b, o, none⟩ y (fun e => hne (by injection e))).trans h.cell, by rw [World.frozen?_setCell]; exact h.free⟩

/-- The act that sizes plays in an act's place. -/
def actOf (A : Nat → ActV) (sz : Int) (i : Nat) : ActV :=
  { A i with d := (i : Int) % 2 * 4, s := sz, a := if 0 < (i : Int) % 3 ∧ 0 ≤ (A i).a then (A i).a / sz * sz else (A i).a }

set_option maxRecDepth 100000 in
set_option maxHeartbeats 3200000 in
theorem sizes_walk (HX0 : ExactHolds) (f g : Option Addr) (l cap n d : Nat) (X : Nat → BitVec 64) (A : Nat → ActV) (sz : Int) (w : World) (hsz : sz = 1 ∨ sz = 2 ∨ sz = 4 ∨ sz = 8) (hl : l ≤ 1000000000000000) (hn : n ≤ 1000000000000000) (hX : WordsAt w f l X) (hA : ActsAt w g n A) :
    Calls Try.prog 33 #[.agg #[.slice f l cap, .slice g n d], .int .i64 sz] w fun e w' => e = .returned (.bool true) ∧ Below w.heap.size w w' := by
  obtain ⟨W, hW⟩ : ∃ W, W = w.alloc (.cells #[.slice f l cap, .slice g n d] 27) := ⟨_, rfl⟩
  have hb1 : Below w.heap.size w W := by rw [hW]; exact bel_alloc (Below.refl w.heap.size w) _
  have L0 : Loc W w.heap.size 0 (.slice f l cap) := by rw [hW]; exact Loc.new _ _ _ _ 0 _ rfl rfl
  have L1 : Loc W w.heap.size 1 (.slice g n d) := by rw [hW]; exact Loc.new _ _ _ _ 1 _ rfl rfl
  have HH := Lib.hid (heavy_any f g l cap n d A W hl hn (hA.below hb1))
  have HX := Lib.hid hX
  have HA := Lib.hid hA
  have HEX := Lib.hid HX0
  clear hX hA HX0
  go_enter Try.func33, Try.ntmps33
  go_wp2_with fail
  rw [← hW]
  refine HH.out.mono ?_
  rintro e w1 ⟨⟨r, rfl, hr⟩, hb2⟩
  have HB1 := Lib.hid (bel_trans hb1 hb2)
  have HL0 := Lib.hid (L0.below hb2)
  have HL1 := Lib.hid (L1.below hb2)
  have HR := Lib.hid hr
  clear hr hb1 hb2 L0 L1 hW HH
  have c0 := HL0.out.cell
  cases r with
  | true =>
    go_wp2_with fail
    go_ret
    exact ⟨rfl, HB1.out⟩
  | false =>
    obtain ⟨hl3, hn3, hA3⟩ := HR.out rfl
    have HA3 := Lib.hid hA3
    have hs1 := HL0.out.lt
    clear HR hA3
    have HB2 := Lib.hid (bel_alloc HB1.out (.cells #[.slice f l cap, .slice none 0 0] 27))
    have HP0 := Lib.hid (HL0.out.alloc (.cells #[.slice f l cap, .slice none 0 0] 27))
    have HP1 := Lib.hid (HL1.out.alloc (.cells #[.slice f l cap, .slice none 0 0] 27))
    have HQ0 := Lib.hid (Loc.new w1 #[.slice f l cap, .slice none 0 0] 27 w1.heap.size 0 _ rfl rfl)
    have HQ1 := Lib.hid (Loc.new w1 #[.slice f l cap, .slice none 0 0] 27 w1.heap.size 1 _ rfl rfl)
    go_wp2_with fail
    go_loopw [6] (fun i wr => ∃ (k : Nat) (fL : Option Addr) (cL : Nat), k ≤ n ∧ i = .int .i64 k ∧ Below w.heap.size w wr ∧ Hid (Loc wr w.heap.size 0 (.slice f l cap)) ∧ Hid (Loc wr w.heap.size 1 (.slice g n d)) ∧ Hid (Loc wr w1.heap.size 0 (.slice f l cap)) ∧ Hid (Loc wr w1.heap.size 1 (.slice fL k cL)) ∧ Hid (OwnA wr (w1.heap.size + 1) (.slice fL k cL) k (actOf A sz))) (fun i _ => n - (intOf i).toNat)
    case atStart => exact ⟨0, none, 0, Nat.zero_le _, rfl, HB2.out, HP0, HP1, HQ0, HQ1, OwnA.nil _ _ _⟩
    case round =>
      obtain ⟨k, fL, cL, hk, rfl, hb, HP4, HP5, HQ4, HQ5, HO4⟩ := hrel
      have c0 := HP4.out.cell
      have c1 := HP5.out.cell
      have HB := Lib.hid hb
      clear hb HB2 HP0 HP1 HQ0 HQ1
      by_cases hlt : k < n
      · obtain ⟨b, o, rfl, ha⟩ := HA.out k hlt
        have ha2 := ha.below HB.out
        obtain ⟨x0, x1, x2, x3, x4, hnums, hlen, ha1, ha0⟩ := ha2
        have HQK : Hid (actOf A sz k = { A k with d := (k : Int) % 2 * 4, s := sz, a := if 0 < (k : Int) % 3 ∧ 0 ≤ (A k).a then (A k).a / sz * sz else (A k).a }) := rfl
        generalize A k = q at *
        have i1 : (0 : Int) ≤ (k : Int) := by omega
        have i2 : (k : Int) < (n : Int) := by omega
        have d4 := HQ4.out.cell
        have d5 := HQ5.out.cell
        have g5 := HQ5.out.free
        have hszr := HQ5.out.lt
        clear hnums ha
        by_cases hat : 0 < (k : Int) % 3 ∧ 0 ≤ q.a
        · have HT := Lib.hid hat
          obtain ⟨t1, t2⟩ := hat
          have e1 : decide (0 < (k : Int) % 3) = true := decide_eq_true t1
          have e2 : decide (0 ≤ q.a) = true := decide_eq_true t2
          rcases hsz with rfl | rfl | rfl | rfl
          · have hav : (actOf A 1 k) = { q with d := (k : Int) % 2 * 4, s := 1, a := q.a } := by
              rw [HQK.out]
              rw [if_pos HT.out, Int.ediv_one, Int.mul_one]
            have hB2 : Below wr.heap.size wr ((wr.alloc (.cells #[.int .i64 ((k : Int) % 2 * 4), .int .i64 (q.a), .int .i64 1, .int .u64 (u q.v), .slice q.f q.l q.c] 33)).alloc (.cells #[.int .i64 ((k : Int) % 2 * 4), .int .i64 (q.a), .int .i64 1, .int .u64 (u q.v), .slice q.f q.l q.c] 33)) := bel_alloc (bel_alloc (Below.refl _ _) _) _
            have O1 := Lib.hid (HO4.out.below hB2)
            have O2 : Hid (∀ t, t < 5 → ((wr.alloc (.cells #[.int .i64 ((k : Int) % 2 * 4), .int .i64 (q.a), .int .i64 1, .int .u64 (u q.v), .slice q.f q.l q.c] 33)).alloc (.cells #[.int .i64 ((k : Int) % 2 * 4), .int .i64 (q.a), .int .i64 1, .int .u64 (u q.v), .slice q.f q.l q.c] 33)).cell? ⟨wr.heap.size + 1, t, none⟩ = some (cellA (actOf A 1 k) t)) := by
              intro t ht
              rw [hav]
              have hcn := cell_new (wr.alloc (.cells #[.int .i64 ((k : Int) % 2 * 4), .int .i64 (q.a), .int .i64 1, .int .u64 (u q.v), .slice q.f q.l q.c] 33)) #[.int .i64 ((k : Int) % 2 * 4), .int .i64 (q.a), .int .i64 1, .int .u64 (u q.v), .slice q.f q.l q.c] 33 t
              rw [size_alloc] at hcn
              rw [hcn]
              have : t = 0 ∨ t = 1 ∨ t = 2 ∨ t = 3 ∨ t = 4 := by omega
              rcases this with rfl | rfl | rfl | rfl | rfl <;> rfl
            have O3 : Hid (w1.heap.size + 1 ≤ ((wr.alloc (.cells #[.int .i64 ((k : Int) % 2 * 4), .int .i64 (q.a), .int .i64 1, .int .u64 (u q.v), .slice q.f q.l q.c] 33)).alloc (.cells #[.int .i64 ((k : Int) % 2 * 4), .int .i64 (q.a), .int .i64 1, .int .u64 (u q.v), .slice q.f q.l q.c] 33)).heap.size) := by show _ ≤ _; simp; omega
            have HB2 := Lib.hid (bel_trans HB.out hB2)
            have M0 := Lib.hid (HP4.out.below hB2)
            have M1 := Lib.hid (HP5.out.below hB2)
            have M2 := Lib.hid (HQ4.out.below hB2)
            have M3 := Lib.hid (HQ5.out.below hB2)
            clear hB2 hav HQK
            go_wp2_with (at_builtin; refine wpList_pushA rfl _ _ rfl (w1.heap.size + 1) _ k (actOf A 1) rfl O1.out (wr.heap.size + 1) 1 rfl O2.out (by omega) O3.out ?_; intro f3 c3 w3 hO3 hB3; have N5 := M3.out.under hB3 (by omega); obtain ⟨p5, r5⟩ := N5)
            have N0 := M0.out.under hB3 (by omega)
            have N1 := M1.out.under hB3 (by omega)
            have N2 := M2.out.under hB3 (by omega)
            have N3 := M3.out.under hB3 (by omega)
            go_roundw
            case rel =>
              refine ⟨k + 1, f3, c3, by omega, by go_num, (HB2.out.trans (hB3.mono (by omega))).setCell (by simp only; omega) _, N0.set _ _ _ (by omega), N1.set _ _ _ (by omega), N2.beside _ _ (by omega), N3.put _, hO3.other _ _ _ (by omega)⟩
            case measure => simp [intOf]; omega
          · have hav : (actOf A 2 k) = { q with d := (k : Int) % 2 * 4, s := 2, a := q.a / 2 * 2 } := by
              rw [HQK.out]
              rw [if_pos HT.out]
            have hB2 : Below wr.heap.size wr ((wr.alloc (.cells #[.int .i64 ((k : Int) % 2 * 4), .int .i64 (q.a / 2 * 2), .int .i64 2, .int .u64 (u q.v), .slice q.f q.l q.c] 33)).alloc (.cells #[.int .i64 ((k : Int) % 2 * 4), .int .i64 (q.a / 2 * 2), .int .i64 2, .int .u64 (u q.v), .slice q.f q.l q.c] 33)) := bel_alloc (bel_alloc (Below.refl _ _) _) _
            have O1 := Lib.hid (HO4.out.below hB2)
            have O2 : Hid (∀ t, t < 5 → ((wr.alloc (.cells #[.int .i64 ((k : Int) % 2 * 4), .int .i64 (q.a / 2 * 2), .int .i64 2, .int .u64 (u q.v), .slice q.f q.l q.c] 33)).alloc (.cells #[.int .i64 ((k : Int) % 2 * 4), .int .i64 (q.a / 2 * 2), .int .i64 2, .int .u64 (u q.v), .slice q.f q.l q.c] 33)).cell? ⟨wr.heap.size + 1, t, none⟩ = some (cellA (actOf A 2 k) t)) := by
              intro t ht
              rw [hav]
              have hcn := cell_new (wr.alloc (.cells #[.int .i64 ((k : Int) % 2 * 4), .int .i64 (q.a / 2 * 2), .int .i64 2, .int .u64 (u q.v), .slice q.f q.l q.c] 33)) #[.int .i64 ((k : Int) % 2 * 4), .int .i64 (q.a / 2 * 2), .int .i64 2, .int .u64 (u q.v), .slice q.f q.l q.c] 33 t
              rw [size_alloc] at hcn
              rw [hcn]
              have : t = 0 ∨ t = 1 ∨ t = 2 ∨ t = 3 ∨ t = 4 := by omega
              rcases this with rfl | rfl | rfl | rfl | rfl <;> rfl
            have O3 : Hid (w1.heap.size + 1 ≤ ((wr.alloc (.cells #[.int .i64 ((k : Int) % 2 * 4), .int .i64 (q.a / 2 * 2), .int .i64 2, .int .u64 (u q.v), .slice q.f q.l q.c] 33)).alloc (.cells #[.int .i64 ((k : Int) % 2 * 4), .int .i64 (q.a / 2 * 2), .int .i64 2, .int .u64 (u q.v), .slice q.f q.l q.c] 33)).heap.size) := by show _ ≤ _; simp; omega
            have HB2 := Lib.hid (bel_trans HB.out hB2)
            have M0 := Lib.hid (HP4.out.below hB2)
            have M1 := Lib.hid (HP5.out.below hB2)
            have M2 := Lib.hid (HQ4.out.below hB2)
            have M3 := Lib.hid (HQ5.out.below hB2)
            clear hB2 hav HQK
            go_wp2_with (at_builtin; refine wpList_pushA rfl _ _ rfl (w1.heap.size + 1) _ k (actOf A 2) rfl O1.out (wr.heap.size + 1) 1 rfl O2.out (by omega) O3.out ?_; intro f3 c3 w3 hO3 hB3; have N5 := M3.out.under hB3 (by omega); obtain ⟨p5, r5⟩ := N5)
            have N0 := M0.out.under hB3 (by omega)
            have N1 := M1.out.under hB3 (by omega)
            have N2 := M2.out.under hB3 (by omega)
            have N3 := M3.out.under hB3 (by omega)
            go_roundw
            case rel =>
              refine ⟨k + 1, f3, c3, by omega, by go_num, (HB2.out.trans (hB3.mono (by omega))).setCell (by simp only; omega) _, N0.set _ _ _ (by omega), N1.set _ _ _ (by omega), N2.beside _ _ (by omega), N3.put _, hO3.other _ _ _ (by omega)⟩
            case measure => simp [intOf]; omega
          · have hav : (actOf A 4 k) = { q with d := (k : Int) % 2 * 4, s := 4, a := q.a / 4 * 4 } := by
              rw [HQK.out]
              rw [if_pos HT.out]
            have hB2 : Below wr.heap.size wr ((wr.alloc (.cells #[.int .i64 ((k : Int) % 2 * 4), .int .i64 (q.a / 4 * 4), .int .i64 4, .int .u64 (u q.v), .slice q.f q.l q.c] 33)).alloc (.cells #[.int .i64 ((k : Int) % 2 * 4), .int .i64 (q.a / 4 * 4), .int .i64 4, .int .u64 (u q.v), .slice q.f q.l q.c] 33)) := bel_alloc (bel_alloc (Below.refl _ _) _) _
            have O1 := Lib.hid (HO4.out.below hB2)
            have O2 : Hid (∀ t, t < 5 → ((wr.alloc (.cells #[.int .i64 ((k : Int) % 2 * 4), .int .i64 (q.a / 4 * 4), .int .i64 4, .int .u64 (u q.v), .slice q.f q.l q.c] 33)).alloc (.cells #[.int .i64 ((k : Int) % 2 * 4), .int .i64 (q.a / 4 * 4), .int .i64 4, .int .u64 (u q.v), .slice q.f q.l q.c] 33)).cell? ⟨wr.heap.size + 1, t, none⟩ = some (cellA (actOf A 4 k) t)) := by
              intro t ht
              rw [hav]
              have hcn := cell_new (wr.alloc (.cells #[.int .i64 ((k : Int) % 2 * 4), .int .i64 (q.a / 4 * 4), .int .i64 4, .int .u64 (u q.v), .slice q.f q.l q.c] 33)) #[.int .i64 ((k : Int) % 2 * 4), .int .i64 (q.a / 4 * 4), .int .i64 4, .int .u64 (u q.v), .slice q.f q.l q.c] 33 t
              rw [size_alloc] at hcn
              rw [hcn]
              have : t = 0 ∨ t = 1 ∨ t = 2 ∨ t = 3 ∨ t = 4 := by omega
              rcases this with rfl | rfl | rfl | rfl | rfl <;> rfl
            have O3 : Hid (w1.heap.size + 1 ≤ ((wr.alloc (.cells #[.int .i64 ((k : Int) % 2 * 4), .int .i64 (q.a / 4 * 4), .int .i64 4, .int .u64 (u q.v), .slice q.f q.l q.c] 33)).alloc (.cells #[.int .i64 ((k : Int) % 2 * 4), .int .i64 (q.a / 4 * 4), .int .i64 4, .int .u64 (u q.v), .slice q.f q.l q.c] 33)).heap.size) := by show _ ≤ _; simp; omega
            have HB2 := Lib.hid (bel_trans HB.out hB2)
            have M0 := Lib.hid (HP4.out.below hB2)
            have M1 := Lib.hid (HP5.out.below hB2)
            have M2 := Lib.hid (HQ4.out.below hB2)
            have M3 := Lib.hid (HQ5.out.below hB2)
            clear hB2 hav HQK
            go_wp2_with (at_builtin; refine wpList_pushA rfl _ _ rfl (w1.heap.size + 1) _ k (actOf A 4) rfl O1.out (wr.heap.size + 1) 1 rfl O2.out (by omega) O3.out ?_; intro f3 c3 w3 hO3 hB3; have N5 := M3.out.under hB3 (by omega); obtain ⟨p5, r5⟩ := N5)
            have N0 := M0.out.under hB3 (by omega)
            have N1 := M1.out.under hB3 (by omega)
            have N2 := M2.out.under hB3 (by omega)
            have N3 := M3.out.under hB3 (by omega)
            go_roundw
            case rel =>
              refine ⟨k + 1, f3, c3, by omega, by go_num, (HB2.out.trans (hB3.mono (by omega))).setCell (by simp only; omega) _, N0.set _ _ _ (by omega), N1.set _ _ _ (by omega), N2.beside _ _ (by omega), N3.put _, hO3.other _ _ _ (by omega)⟩
            case measure => simp [intOf]; omega
          · have hav : (actOf A 8 k) = { q with d := (k : Int) % 2 * 4, s := 8, a := q.a / 8 * 8 } := by
              rw [HQK.out]
              rw [if_pos HT.out]
            have hB2 : Below wr.heap.size wr ((wr.alloc (.cells #[.int .i64 ((k : Int) % 2 * 4), .int .i64 (q.a / 8 * 8), .int .i64 8, .int .u64 (u q.v), .slice q.f q.l q.c] 33)).alloc (.cells #[.int .i64 ((k : Int) % 2 * 4), .int .i64 (q.a / 8 * 8), .int .i64 8, .int .u64 (u q.v), .slice q.f q.l q.c] 33)) := bel_alloc (bel_alloc (Below.refl _ _) _) _
            have O1 := Lib.hid (HO4.out.below hB2)
            have O2 : Hid (∀ t, t < 5 → ((wr.alloc (.cells #[.int .i64 ((k : Int) % 2 * 4), .int .i64 (q.a / 8 * 8), .int .i64 8, .int .u64 (u q.v), .slice q.f q.l q.c] 33)).alloc (.cells #[.int .i64 ((k : Int) % 2 * 4), .int .i64 (q.a / 8 * 8), .int .i64 8, .int .u64 (u q.v), .slice q.f q.l q.c] 33)).cell? ⟨wr.heap.size + 1, t, none⟩ = some (cellA (actOf A 8 k) t)) := by
              intro t ht
              rw [hav]
              have hcn := cell_new (wr.alloc (.cells #[.int .i64 ((k : Int) % 2 * 4), .int .i64 (q.a / 8 * 8), .int .i64 8, .int .u64 (u q.v), .slice q.f q.l q.c] 33)) #[.int .i64 ((k : Int) % 2 * 4), .int .i64 (q.a / 8 * 8), .int .i64 8, .int .u64 (u q.v), .slice q.f q.l q.c] 33 t
              rw [size_alloc] at hcn
              rw [hcn]
              have : t = 0 ∨ t = 1 ∨ t = 2 ∨ t = 3 ∨ t = 4 := by omega
              rcases this with rfl | rfl | rfl | rfl | rfl <;> rfl
            have O3 : Hid (w1.heap.size + 1 ≤ ((wr.alloc (.cells #[.int .i64 ((k : Int) % 2 * 4), .int .i64 (q.a / 8 * 8), .int .i64 8, .int .u64 (u q.v), .slice q.f q.l q.c] 33)).alloc (.cells #[.int .i64 ((k : Int) % 2 * 4), .int .i64 (q.a / 8 * 8), .int .i64 8, .int .u64 (u q.v), .slice q.f q.l q.c] 33)).heap.size) := by show _ ≤ _; simp; omega
            have HB2 := Lib.hid (bel_trans HB.out hB2)
            have M0 := Lib.hid (HP4.out.below hB2)
            have M1 := Lib.hid (HP5.out.below hB2)
            have M2 := Lib.hid (HQ4.out.below hB2)
            have M3 := Lib.hid (HQ5.out.below hB2)
            clear hB2 hav HQK
            go_wp2_with (at_builtin; refine wpList_pushA rfl _ _ rfl (w1.heap.size + 1) _ k (actOf A 8) rfl O1.out (wr.heap.size + 1) 1 rfl O2.out (by omega) O3.out ?_; intro f3 c3 w3 hO3 hB3; have N5 := M3.out.under hB3 (by omega); obtain ⟨p5, r5⟩ := N5)
            have N0 := M0.out.under hB3 (by omega)
            have N1 := M1.out.under hB3 (by omega)
            have N2 := M2.out.under hB3 (by omega)
            have N3 := M3.out.under hB3 (by omega)
            go_roundw
            case rel =>
              refine ⟨k + 1, f3, c3, by omega, by go_num, (HB2.out.trans (hB3.mono (by omega))).setCell (by simp only; omega) _, N0.set _ _ _ (by omega), N1.set _ _ _ (by omega), N2.beside _ _ (by omega), N3.put _, hO3.other _ _ _ (by omega)⟩
            case measure => simp [intOf]; omega
        · have HT := Lib.hid hat
          by_cases t1 : 0 < (k : Int) % 3
          · have e1 : decide (0 < (k : Int) % 3) = true := decide_eq_true t1
            have e2 : decide (0 ≤ q.a) = false := decide_eq_false (fun h => hat ⟨t1, h⟩)
            clear hat
            have hav : (actOf A sz k) = { q with d := (k : Int) % 2 * 4, s := sz, a := q.a } := by
              rw [HQK.out]
              rw [if_neg HT.out]
            have hB2 : Below wr.heap.size wr ((wr.alloc (.cells #[.int .i64 ((k : Int) % 2 * 4), .int .i64 (q.a), .int .i64 sz, .int .u64 (u q.v), .slice q.f q.l q.c] 33)).alloc (.cells #[.int .i64 ((k : Int) % 2 * 4), .int .i64 (q.a), .int .i64 sz, .int .u64 (u q.v), .slice q.f q.l q.c] 33)) := bel_alloc (bel_alloc (Below.refl _ _) _) _
            have O1 := Lib.hid (HO4.out.below hB2)
            have O2 : Hid (∀ t, t < 5 → ((wr.alloc (.cells #[.int .i64 ((k : Int) % 2 * 4), .int .i64 (q.a), .int .i64 sz, .int .u64 (u q.v), .slice q.f q.l q.c] 33)).alloc (.cells #[.int .i64 ((k : Int) % 2 * 4), .int .i64 (q.a), .int .i64 sz, .int .u64 (u q.v), .slice q.f q.l q.c] 33)).cell? ⟨wr.heap.size + 1, t, none⟩ = some (cellA (actOf A sz k) t)) := by
              intro t ht
              rw [hav]
              have hcn := cell_new (wr.alloc (.cells #[.int .i64 ((k : Int) % 2 * 4), .int .i64 (q.a), .int .i64 sz, .int .u64 (u q.v), .slice q.f q.l q.c] 33)) #[.int .i64 ((k : Int) % 2 * 4), .int .i64 (q.a), .int .i64 sz, .int .u64 (u q.v), .slice q.f q.l q.c] 33 t
              rw [size_alloc] at hcn
              rw [hcn]
              have : t = 0 ∨ t = 1 ∨ t = 2 ∨ t = 3 ∨ t = 4 := by omega
              rcases this with rfl | rfl | rfl | rfl | rfl <;> rfl
            have O3 : Hid (w1.heap.size + 1 ≤ ((wr.alloc (.cells #[.int .i64 ((k : Int) % 2 * 4), .int .i64 (q.a), .int .i64 sz, .int .u64 (u q.v), .slice q.f q.l q.c] 33)).alloc (.cells #[.int .i64 ((k : Int) % 2 * 4), .int .i64 (q.a), .int .i64 sz, .int .u64 (u q.v), .slice q.f q.l q.c] 33)).heap.size) := by show _ ≤ _; simp; omega
            have HB2 := Lib.hid (bel_trans HB.out hB2)
            have M0 := Lib.hid (HP4.out.below hB2)
            have M1 := Lib.hid (HP5.out.below hB2)
            have M2 := Lib.hid (HQ4.out.below hB2)
            have M3 := Lib.hid (HQ5.out.below hB2)
            clear hB2 hav HQK
            go_wp2_with (at_builtin; refine wpList_pushA rfl _ _ rfl (w1.heap.size + 1) _ k (actOf A sz) rfl O1.out (wr.heap.size + 1) 1 rfl O2.out (by omega) O3.out ?_; intro f3 c3 w3 hO3 hB3; have N5 := M3.out.under hB3 (by omega); obtain ⟨p5, r5⟩ := N5)
            have N0 := M0.out.under hB3 (by omega)
            have N1 := M1.out.under hB3 (by omega)
            have N2 := M2.out.under hB3 (by omega)
            have N3 := M3.out.under hB3 (by omega)
            go_roundw
            case rel =>
              refine ⟨k + 1, f3, c3, by omega, by go_num, (HB2.out.trans (hB3.mono (by omega))).setCell (by simp only; omega) _, N0.set _ _ _ (by omega), N1.set _ _ _ (by omega), N2.beside _ _ (by omega), N3.put _, hO3.other _ _ _ (by omega)⟩
            case measure => simp [intOf]; omega
          · have e1 : decide (0 < (k : Int) % 3) = false := decide_eq_false t1
            clear hat
            have hav : (actOf A sz k) = { q with d := (k : Int) % 2 * 4, s := sz, a := q.a } := by
              rw [HQK.out]
              rw [if_neg HT.out]
            have hB2 : Below wr.heap.size wr ((wr.alloc (.cells #[.int .i64 ((k : Int) % 2 * 4), .int .i64 (q.a), .int .i64 sz, .int .u64 (u q.v), .slice q.f q.l q.c] 33)).alloc (.cells #[.int .i64 ((k : Int) % 2 * 4), .int .i64 (q.a), .int .i64 sz, .int .u64 (u q.v), .slice q.f q.l q.c] 33)) := bel_alloc (bel_alloc (Below.refl _ _) _) _
            have O1 := Lib.hid (HO4.out.below hB2)
            have O2 : Hid (∀ t, t < 5 → ((wr.alloc (.cells #[.int .i64 ((k : Int) % 2 * 4), .int .i64 (q.a), .int .i64 sz, .int .u64 (u q.v), .slice q.f q.l q.c] 33)).alloc (.cells #[.int .i64 ((k : Int) % 2 * 4), .int .i64 (q.a), .int .i64 sz, .int .u64 (u q.v), .slice q.f q.l q.c] 33)).cell? ⟨wr.heap.size + 1, t, none⟩ = some (cellA (actOf A sz k) t)) := by
              intro t ht
              rw [hav]
              have hcn := cell_new (wr.alloc (.cells #[.int .i64 ((k : Int) % 2 * 4), .int .i64 (q.a), .int .i64 sz, .int .u64 (u q.v), .slice q.f q.l q.c] 33)) #[.int .i64 ((k : Int) % 2 * 4), .int .i64 (q.a), .int .i64 sz, .int .u64 (u q.v), .slice q.f q.l q.c] 33 t
              rw [size_alloc] at hcn
              rw [hcn]
              have : t = 0 ∨ t = 1 ∨ t = 2 ∨ t = 3 ∨ t = 4 := by omega
              rcases this with rfl | rfl | rfl | rfl | rfl <;> rfl
            have O3 : Hid (w1.heap.size + 1 ≤ ((wr.alloc (.cells #[.int .i64 ((k : Int) % 2 * 4), .int .i64 (q.a), .int .i64 sz, .int .u64 (u q.v), .slice q.f q.l q.c] 33)).alloc (.cells #[.int .i64 ((k : Int) % 2 * 4), .int .i64 (q.a), .int .i64 sz, .int .u64 (u q.v), .slice q.f q.l q.c] 33)).heap.size) := by show _ ≤ _; simp; omega
            have HB2 := Lib.hid (bel_trans HB.out hB2)
            have M0 := Lib.hid (HP4.out.below hB2)
            have M1 := Lib.hid (HP5.out.below hB2)
            have M2 := Lib.hid (HQ4.out.below hB2)
            have M3 := Lib.hid (HQ5.out.below hB2)
            clear hB2 hav HQK
            go_wp2_with (at_builtin; refine wpList_pushA rfl _ _ rfl (w1.heap.size + 1) _ k (actOf A sz) rfl O1.out (wr.heap.size + 1) 1 rfl O2.out (by omega) O3.out ?_; intro f3 c3 w3 hO3 hB3; have N5 := M3.out.under hB3 (by omega); obtain ⟨p5, r5⟩ := N5)
            have N0 := M0.out.under hB3 (by omega)
            have N1 := M1.out.under hB3 (by omega)
            have N2 := M2.out.under hB3 (by omega)
            have N3 := M3.out.under hB3 (by omega)
            go_roundw
            case rel =>
              refine ⟨k + 1, f3, c3, by omega, by go_num, (HB2.out.trans (hB3.mono (by omega))).setCell (by simp only; omega) _, N0.set _ _ _ (by omega), N1.set _ _ _ (by omega), N2.beside _ _ (by omega), N3.put _, hO3.other _ _ _ (by omega)⟩
            case measure => simp [intOf]; omega
      · have d4 := HQ4.out.cell
        have d5 := HQ5.out.cell
        obtain rfl : k = n := by omega
        have hacts : ActsAt wr fL k (actOf A sz) := by
          refine HO4.out.acts (fun i hi => ?_)
          obtain ⟨b, o, _, ha⟩ := HA.out i hi
          have ha2 := ha.below HB.out
          refine ⟨ha2.nums, ha2.len, ?_, ?_⟩
          · have h1 := ha2.a1
            show (if 0 < (i : Int) % 3 ∧ 0 ≤ (A i).a then (A i).a / sz * sz else (A i).a) ≤ _
            split
            · rename_i hh
              rcases hsz with rfl | rfl | rfl | rfl <;> omega
            · exact h1
          · have h1 := ha2.a0
            show _ ≤ (if 0 < (i : Int) % 3 ∧ 0 ≤ (A i).a then (A i).a / sz * sz else (A i).a)
            split
            · rename_i hh
              rcases hsz with rfl | rfl | rfl | rfl <;> omega
            · exact h1
        have HC := Lib.hid (HEX.out f fL l cap k cL X (actOf A sz) wr hl hn (HX.out.below HB.out) hacts)
        clear hacts
        go_wp2_with fail
        refine HC.out.mono ?_
        rintro e w9 ⟨rfl, hb9⟩
        go_wp2
        go_ret
        exact ⟨rfl, bel_trans HB.out hb9⟩
end Go.Proofs.Ytpnkhijbfnnggaa
