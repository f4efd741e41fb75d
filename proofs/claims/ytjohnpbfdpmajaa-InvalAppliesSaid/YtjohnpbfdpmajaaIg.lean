/- Stage 10: what is taken out of a row: the closure, slices.IndexFunc, slices.DeleteFunc: contracts. -/
import Derived.Test.YtjohnpbfdpmajaaIc
import Derived.Shelf.Abstract
import Derived.Deep.MidRow
set_option linter.all false
namespace Go.Proofs.Ytjohnpbfdpmajaa
open Go.ChangeShapes Go.WideShapes Go.ChangeAt Go.RowKit Go.Deep Go.Shelf

section
variable {Q : Type} {K : RowK Q} {w : World} {base g n c : Nat} {L : List Q}
theorem rcells_drop (K : RowK Q) : ∀ (L : List Q) (i : Nat), rcells K (L.drop i) = (rcells K L).drop (i * K.N)
  | [], i => by simp [rcells]
  | x :: L, 0 => by simp
  | x :: L, i + 1 => by
    have hx : (K.V x).toList.length = K.N := by rw [Array.length_toList]; exact K.size x
    rw [List.drop_succ_cons, rcells, rcells_drop K L i, Nat.add_mul, Nat.one_mul, Nat.add_comm (i * K.N), List.drop_append]
    have e : List.drop (K.N + i * K.N) (K.V x).toList = [] := List.drop_eq_nil_of_le (by rw [hx]; omega)
    rw [e, List.nil_append, hx, Nat.add_sub_cancel_left]
/-- An element of a row of the call's own is laid anew. -/
theorem OwnR.setAt (h : OwnR K w base (.slice (some ⟨g, 0, none⟩) n c) L) (i : Nat) (q : Q) (hi : i < n) :
    OwnR K (w.setCells g (i * K.N) (K.V q).toList) base (.slice (some ⟨g, 0, none⟩) n c) (L.set i q) := by
  have hn := h.rows.1
  rcases h.2 with ⟨he, _⟩ | ⟨g', cap, cur, he, hb, hg, hnc, hm, hs, ht⟩
  · simp at he
  simp only [Value.slice.injEq, Option.some.injEq, Addr.mk.injEq, and_true] at he
  obtain ⟨rfl, rfl, rfl⟩ := he
  have hV : (K.V q).toList.length = K.N := by rw [Array.length_toList]; exact K.size q
  have hcl : cur.toList.length = cur.size := Array.length_toList
  have hiN : i * K.N + K.N ≤ L.length * K.N := by have := Nat.mul_le_mul_right K.N (show i + 1 ≤ L.length by omega); rwa [Nat.add_mul, Nat.one_mul] at this
  have hLc : L.length * K.N ≤ c * K.N := Nat.mul_le_mul_right _ hnc
  obtain ⟨cur', h1, h2, h3⟩ := BoxAt.setMany (K.V q).toList (i * K.N) w cur ⟨hg⟩ (by rw [hV, hs]; omega)
  refine ⟨by rw [rcells_length], .inr ⟨g, c, cur', by rw [List.length_set], hb, h1.h, by rw [List.length_set]; exact hnc, hm, by rw [h2, hs], ?_⟩⟩
  rw [h3, List.length_set]
  have hset : L.set i q = L.take i ++ q :: L.drop (i + 1) := by
    rw [List.set_eq_take_append_cons_drop, if_pos (by omega)]
  rw [hset, rcells_append, rcells, rcells_take, rcells_drop, ← ht, hV, List.take_take, Nat.min_eq_left (by omega)]
  rw [List.drop_take, ← List.append_assoc]
  have hl1 : (List.take (i * K.N) cur.toList ++ (K.V q).toList).length = i * K.N + K.N := by rw [List.length_append, List.length_take, hV, hcl, Nat.min_eq_left (by omega)]
  rw [List.take_append, hl1, List.take_of_length_le (by omega)]
  congr 1
  rw [Nat.add_mul, Nat.one_mul]
/-- The first of it alone. -/
theorem OwnR.cutTo (h : OwnR K w base (.slice (some ⟨g, 0, none⟩) n c) L) (i : Nat) (hi : i ≤ n) : OwnR K w base (.slice (some ⟨g, 0, none⟩) i c) (L.take i) := by
  have := h.laid i [] hi (by have := h.room.1; simp; omega)
  simpa [rcells, World.setCells] using this
end
/-- What is kept. -/
def keptE (p : Ety → Bool) (L : List Ety) : List Ety := L.filter fun x => !p x
theorem kept_no {p : Ety → Bool} {E : List Ety} {k : Nat} {x : Ety} (hx : E[k]? = some x) (hp : p x = true) : keptE p (E.take (k + 1)) = keptE p (E.take k) := by
  obtain ⟨hk, rfl⟩ := List.getElem?_eq_some_iff.1 hx
  rw [List.take_succ_eq_append_getElem hk]
  unfold keptE
  rw [List.filter_append]
  simp [hp]
theorem kept_yes {p : Ety → Bool} {E : List Ety} {k : Nat} {x : Ety} (hx : E[k]? = some x) (hp : p x = false) : keptE p (E.take (k + 1)) = keptE p (E.take k) ++ [x] := by
  obtain ⟨hk, rfl⟩ := List.getElem?_eq_some_iff.1 hx
  rw [List.take_succ_eq_append_getElem hk]
  unfold keptE
  rw [List.filter_append]
  simp [hp]
theorem kept_all {p : Ety → Bool} {E : List Ety} {k : Nat} (h : ∀ (i : Nat) (y : Ety), i < k → E[i]? = some y → p y = false) : keptE p (E.take k) = E.take k := by
  unfold keptE
  rw [List.filter_eq_self]
  intro y hy
  obtain ⟨i, hi, rfl⟩ := List.mem_iff_getElem.1 hy
  rw [List.length_take] at hi
  rw [h i _ (by omega) (by rw [List.getElem_take]; exact List.getElem?_eq_getElem (by omega))]
  rfl
set_option maxRecDepth 100000 in
set_option maxHeartbeats 3200000 in
theorem closed_any (e : Ety) (qb : Nat) (gd : Option Addr) (md dd : Nat) (D : List Inv) (he : mayEn e = true) (hv : allV D = true) (w : World) :
    BoxAt w qb #[.slice gd md dd] 23 → RowsAt KI w gd D → md = D.length → md ≤ 1000000 →
    Calls Try.prog 62 #[entV e, .pointer (some ⟨qb, 0, none⟩)] w fun q w' => q = .returned (.bool (anyT e D)) ∧ Below w.heap.size w w' := by
  intro hq hD ho hm
  have HT := Lib.hid (fun W (hB : Below w.heap.size w W) => taken_any e gd md dd D W he hv (hD.below hB) ho hm)
  have hqb : qb < w.heap.size := hq.lt
  have Q0 := Lib.hid hq
  clear hq hD he hv ho
  generalize anyT e D = ta at *
  unfold entV entC at *
  have htw : w.heap.size ≤ w.heap.size := Nat.le_refl _
  have B0 := Lib.hid (Below.refl w.heap.size w)
  go_enter Try.func62, Try.ntmps62
  go_upto_region 1 with fail
  have Q1 := Lib.hid ((Q0.out.alloc (.cells #[.int .i64 e.k, .int .i64 e.vm, .int .i64 e.sp, .bool e.al, .int .i64 e.pg, .int .i64 e.lv, .int .i64 e.fr, .int .i64 e.mi, .bool e.t.r, .bool e.t.w, .bool e.t.x, .bool e.t.a, .bool e.t.n, .int .i64 e.t.s] 36)))
  have E1 := Lib.hid ((BoxAt.newAt (w) #[.int .i64 e.k, .int .i64 e.vm, .int .i64 e.sp, .bool e.al, .int .i64 e.pg, .int .i64 e.lv, .int .i64 e.fr, .int .i64 e.mi, .bool e.t.r, .bool e.t.w, .bool e.t.x, .bool e.t.a, .bool e.t.n, .int .i64 e.t.s] 36 (w.heap.size) (by first | omega | (simp; done) | (simp; omega))))
  have B1 := Lib.hid ((bel_alloc B0.out (.cells #[.int .i64 e.k, .int .i64 e.vm, .int .i64 e.sp, .bool e.al, .int .i64 e.pg, .int .i64 e.lv, .int .i64 e.fr, .int .i64 e.mi, .bool e.t.r, .bool e.t.w, .bool e.t.x, .bool e.t.a, .bool e.t.n, .int .i64 e.t.s] 36)))
  obtain ⟨g1, hg1⟩ : ∃ g1, g1 = w.heap.size := ⟨_, rfl⟩
  obtain ⟨W1, hW1⟩ : ∃ W1, W1 = (w).alloc (.cells #[.int .i64 e.k, .int .i64 e.vm, .int .i64 e.sp, .bool e.al, .int .i64 e.pg, .int .i64 e.lv, .int .i64 e.fr, .int .i64 e.mi, .bool e.t.r, .bool e.t.w, .bool e.t.x, .bool e.t.a, .bool e.t.n, .int .i64 e.t.s] 36) := ⟨_, rfl⟩
  have hs1 : g1 + 1 ≤ W1.heap.size := by rw [hW1, hg1]; simp
  rw [← hW1] at Q1 E1 B1 ⊢
  have hb1 : w.heap.size ≤ g1 := by omega
  rw [← hg1] at E1 ⊢
  clear hg1
  clear hW1 Q0 B0
  have Ec0 := E1.out.get 0 (.int .i64 e.k) rfl
  have Ec1 := E1.out.get 1 (.int .i64 e.vm) rfl
  have Ec2 := E1.out.get 2 (.int .i64 e.sp) rfl
  have Ec3 := E1.out.get 3 (.bool e.al) rfl
  have Ec4 := E1.out.get 4 (.int .i64 e.pg) rfl
  have Ec5 := E1.out.get 5 (.int .i64 e.lv) rfl
  have Ec6 := E1.out.get 6 (.int .i64 e.fr) rfl
  have Ec7 := E1.out.get 7 (.int .i64 e.mi) rfl
  have Ec8 := E1.out.get 8 (.bool e.t.r) rfl
  have Ec9 := E1.out.get 9 (.bool e.t.w) rfl
  have Ec10 := E1.out.get 10 (.bool e.t.x) rfl
  have Ec11 := E1.out.get 11 (.bool e.t.a) rfl
  have Ec12 := E1.out.get 12 (.bool e.t.n) rfl
  have Ec13 := E1.out.get 13 (.int .i64 e.t.s) rfl
  have Qc0 := Q1.out.get 0 (.slice gd md dd) rfl
  go_wp2_with fail
  refine (HT.out _ B1.out).mono ?_
  rintro e w2 ⟨rfl, hb2⟩
  have hz2 := hb2.size
  have Q2 := Lib.hid (Q1.out.below hb2)
  have E2 := Lib.hid (E1.out.below hb2)
  have B2 := Lib.hid (bel_trans B1.out hb2)
  skip
  have hs2 : g1 + 1 ≤ w2.heap.size := by omega
  clear Ec0 Ec1 Ec2 Ec3 Ec4 Ec5 Ec6 Ec7 Ec8 Ec9 Ec10 Ec11 Ec12 Ec13 Qc0
  clear Q1 E1 B1 hs1 hb2 hz2
  go_wp2
  go_ret
  exact ⟨rfl, B2.out⟩
set_option maxRecDepth 100000 in
set_option maxHeartbeats 3200000 in
theorem ixf_any (f : Option Addr) (l c qb : Nat) (E : List Ety) (pp : Ety → Bool) (w : World) (hL : RowsAt KE w f E) (hn : l = E.length) (hl : l ≤ 1000000) (hpp : ∀ (k : Nat) (x : Ety), E[k]? = some x → ∀ W, Below w.heap.size w W → Calls Try.prog 62 #[entV x, .pointer (some ⟨qb, 0, none⟩)] W fun q w' => q = .returned (.bool (pp x)) ∧ Below W.heap.size W w') :
    Calls Try.prog 66 #[.slice f l c, (.func (.func 62) #[] #[.pointer (some ⟨qb, 0, none⟩)])] w fun q w' => q = .returned (.int .i64 (placeE pp E 0)) ∧ Below w.heap.size w w' := by
  have eg : ∀ args w, (callFunc 62 args).run Try.prog w = .ok (.enter 62 args) w := enters_of Try.func62 (by kernel_rfl) rfl
  have HL := Lib.hid hL
  have HN := Lib.hid hn
  have HPP := Lib.hid hpp
  clear hL hn hpp
  obtain ⟨q, hq⟩ : ∃ q, q = placeE pp E 0 := ⟨_, rfl⟩
  rw [← hq]
  have HQ := Lib.hid (show placeE pp (E.drop 0) ((0 : Nat) : Int) = q from hq.symm)
  clear hq
  have htw : w.heap.size ≤ w.heap.size := Nat.le_refl _
  have B0 := Lib.hid (Below.refl w.heap.size w)
  go_enter Try.func66, Try.ntmps66
  go_wp2
  go_loopw [8] (fun i wr => ∃ (k : Nat), k ≤ l ∧ i = .int .i64 k ∧ Hid (Below w.heap.size w wr) ∧ Hid (placeE pp (E.drop k) (k : Int) = q)) (fun i _ => l - (intOf i).toNat)
  case atStart => exact ⟨0, by omega, rfl, B0.out, HQ⟩
  case round =>
    clear B0 HQ
    obtain ⟨k, hkk, rfl, Br, HQ⟩ := hrel
    obtain ⟨mr, hmr⟩ : ∃ mr, mr = wr.heap.size := ⟨_, rfl⟩
    have hgwr : w.heap.size ≤ mr := by rw [hmr]; exact Br.out.size
    have hsr : mr ≤ wr.heap.size := by omega
    clear hmr
    by_cases hltk : k < l
    · have ik0k : (0 : Int) ≤ (k : Int) := by omega
      have ik1k : (k : Int) < (l : Int) := by omega
      have ikwk : IntKind.i64.wrap ((k : Int) + 1) = (k : Int) + 1 := IntWalk.i64_in _ (by omega)
      obtain ⟨xe, hxe⟩ := rows_some HN.out hltk
      have HPE := Lib.hid (fun W hB => HPP.out k xe hxe W hB)
      have hxd := rows_drop hxe
      obtain ⟨b, o, rfl, hre⟩ := HL.out k xe hxe
      have HRXE := Lib.hid (show RowAt w b (o + k * 14) 14 #[.int .i64 xe.k, .int .i64 xe.vm, .int .i64 xe.sp, .bool xe.al, .int .i64 xe.pg, .int .i64 xe.lv, .int .i64 xe.fr, .int .i64 xe.mi, .bool xe.t.r, .bool xe.t.w, .bool xe.t.x, .bool xe.t.a, .bool xe.t.n, .int .i64 xe.t.s] from hre)
      have hbe : b < w.heap.size := hre.lt
      clear hre hxe
      have HQ := HQ.out
      rw [hxd] at HQ
      unfold placeE at HQ
      have HQ := Lib.hid HQ
      clear hxd
      obtain ⟨o1, ho1⟩ : ∃ o1, o1 = pp xe := ⟨_, rfl⟩
      rw [← ho1] at HPE HQ
      clear ho1
      unfold entV entC at HPE
      have yXE := (HRXE.out.below Br.out)
      have yXE0 := yXE.get0 (.int .i64 xe.k) (by decide) rfl
      have yXE1 := yXE.get 1 (.int .i64 xe.vm) (by decide) rfl
      have yXE2 := yXE.get 2 (.int .i64 xe.sp) (by decide) rfl
      have yXE3 := yXE.get 3 (.bool xe.al) (by decide) rfl
      have yXE4 := yXE.get 4 (.int .i64 xe.pg) (by decide) rfl
      have yXE5 := yXE.get 5 (.int .i64 xe.lv) (by decide) rfl
      have yXE6 := yXE.get 6 (.int .i64 xe.fr) (by decide) rfl
      have yXE7 := yXE.get 7 (.int .i64 xe.mi) (by decide) rfl
      have yXE8 := yXE.get 8 (.bool xe.t.r) (by decide) rfl
      have yXE9 := yXE.get 9 (.bool xe.t.w) (by decide) rfl
      have yXE10 := yXE.get 10 (.bool xe.t.x) (by decide) rfl
      have yXE11 := yXE.get 11 (.bool xe.t.a) (by decide) rfl
      have yXE12 := yXE.get 12 (.bool xe.t.n) (by decide) rfl
      have yXE13 := yXE.get 13 (.int .i64 xe.t.s) (by decide) rfl
      clear yXE
      go_wp2_with fail
      refine (HPE.out _ Br.out).mono ?_
      rintro e w1 ⟨rfl, hb1⟩
      have hz1 := hb1.size
      have B1 := Lib.hid (bel_trans Br.out hb1)
      skip
      have hs1 : mr ≤ w1.heap.size := by omega
      clear yXE0 yXE1 yXE2 yXE3 yXE4 yXE5 yXE6 yXE7 yXE8 yXE9 yXE10 yXE11 yXE12 yXE13
      clear Br hsr hb1 hz1
      cases o1
      · have HQ := Lib.hid (show placeE pp (E.drop (k + 1)) ((k + 1 : Nat) : Int) = q from HQ.out)
        go_wp2
        go_roundw
        case rel => exact ⟨k + 1, by omega, by go_num, B1.out, HQ⟩
        case measure => simp [intOf]; omega
      have HR := Lib.hid (show (k : Int) = q from HQ.out)
      go_wp2
      go_ret
      exact ⟨ret_int HR.out, B1.out⟩
    · have HR := Lib.hid (show (-1 : Int) = q from by rw [← HQ.out, rows_end HN.out hltk]; rfl)
      go_wp2
      go_ret
      exact ⟨ret_int HR.out, Br.out⟩
end Go.Proofs.Ytjohnpbfdpmajaa
