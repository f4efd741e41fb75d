/- TlbOnly's walk. -/
import Derived.Test.YtcbjmpllmnphkaaBm
set_option linter.all false
namespace Go.Proofs.Ytcbjmpllmnphkaa
open Go.ChangeShapes Go.WideShapes Go.ChangeAt Go.RowKit Go.Deep

theorem allF_iff (E : List Ety) : ∀ (L : List Ety) (k : Int), allF E L k = true ↔ ∀ (i : Nat) (x : Ety), L[i]? = some x → mayEn x = true ∧ inE E x = k + (i : Int)
  | [], k => by simp [allF]
  | y :: L, k => by
    unfold allF
    simp only [Bool.and_eq_true, decide_eq_true_eq]
    rw [allF_iff E L (k + 1)]
    constructor
    · rintro ⟨h1, h2, h3⟩ i x hx
      cases i with
      | zero => simp only [List.getElem?_cons_zero, Option.some.injEq] at hx; subst hx; exact ⟨h1, by rw [h2]; simp⟩
      | succ i =>
        obtain ⟨a, b⟩ := h3 i x (by simpa using hx)
        exact ⟨a, by rw [b]; push_cast; omega⟩
    · intro h
      refine ⟨(h 0 y rfl).1, by have := (h 0 y rfl).2; simpa using this, fun i x hx => ?_⟩
      obtain ⟨a, b⟩ := h (i + 1) x (by simpa using hx)
      exact ⟨a, by rw [b]; push_cast; omega⟩
theorem mayT_len {F : List Ety} {D : List Inv} (h : mayT F D = true) : F.length ≤ 8 ∧ D.length ≤ 8 := by
  unfold mayT at h
  simp only [Bool.and_eq_true, decide_eq_true_eq] at h
  exact h.2.2
theorem mayT_fill {F : List Ety} {D : List Inv} {e : Ety} (h : mayT F D = true) (he : mayEn e = true) : mayT (fill9 F e) D = true := by
  unfold fill9
  split
  · rename_i hn
    unfold mayT at h ⊢
    simp only [Bool.and_eq_true, decide_eq_true_eq] at h ⊢
    obtain ⟨h1, h2, h3, h4⟩ := h
    refine ⟨(allF_iff _ _ _).2 fun i x hx => ?_, h2, by rw [List.length_append, List.length_singleton]; omega, h4⟩
    have h1' := (allF_iff F F 0).1 h1
    have key : (F ++ [e])[i]? = some x → decide (inE (F ++ [e]) x = (i : Int)) = !decide (0 ≤ inE ((F ++ [e]).take i) x) := fun h => inE_take h
    have hk := key hx
    rw [List.getElem?_append] at hx
    split at hx
    · rename_i hi
      obtain ⟨a, b⟩ := h1' i x hx
      refine ⟨a, ?_⟩
      rw [List.take_append_of_le_length (by omega)] at hk
      have hq := inE_take hx
      rw [← hq] at hk
      rw [Int.zero_add] at b ⊢
      rw [b] at hk
      simpa using hk
    · rename_i hi
      have hi0 : i = F.length := by
        have := (List.getElem?_eq_some_iff.1 hx).1
        simp at this
        omega
      subst hi0
      simp only [Nat.sub_self, List.getElem?_cons_zero, Option.some.injEq] at hx
      subst hx
      refine ⟨he, ?_⟩
      rw [List.take_append_of_le_length (by omega), List.take_length] at hk
      rw [Int.zero_add]
      have : decide (0 ≤ inE F e) = false := decide_eq_false (by omega)
      rw [this] at hk
      simpa using hk
  · exact h
theorem fndE_tell (p : Ety → Bool) : ∀ (L : List Ety), (fndE p L = (ent0, 3) ∧ ∀ x ∈ L, p x = false) ∨ ∃ x ∈ L, p x = true ∧ fndE p L = (x, 0)
  | [] => .inl ⟨rfl, fun x h => by cases h⟩
  | y :: L => by
    unfold fndE
    cases hp : p y
    · rw [if_neg (by decide)]
      rcases fndE_tell p L with ⟨h1, h2⟩ | ⟨x, h1, h2, h3⟩
      · refine .inl ⟨h1, fun x hx => ?_⟩
        rcases List.mem_cons.1 hx with rfl | hx
        · exact hp
        · exact h2 x hx
      · exact .inr ⟨x, List.mem_cons_of_mem _ h1, h2, h3⟩
    · rw [if_pos rfl]
      exact .inr ⟨y, List.mem_cons_self .., hp, rfl⟩
theorem mid_found {F : List Ety} {D : List Inv} {e : Ety} (h : mayT F D = true) (he : mayEn e = true) (hk : e.k = 2) (hr : e.t.r = true) (hin : 0 ≤ inE F e) :
    (firstR F D 2 e.vm 0 e.pg 0).2 = 0 ∧ (firstR F D 2 e.vm 0 e.pg 0).1.pg = e.pg ∧ (firstR F D 2 e.vm 0 e.pg 0).1.vm = e.vm ∧ (firstR F D 2 e.vm 0 e.pg 0).1.t.r = true := by
  have hm := he
  rw [mayEn_two] at hm
  unfold numE kindE at hm
  rw [hk] at hm
  simp at hm
  obtain ⟨⟨n1, n2, n3, n4, n5, n6⟩, m1, m2, m3, m4, m5⟩ := hm
  have hpl : (mayT F D && (numB 0 2 && mayPl e.vm 0 e.pg)) = true := by
    unfold mayPl
    rw [h, n1, n3]
    rfl
  unfold firstR
  rw [if_pos hpl]
  have hfit : fitsE 2 e.vm 0 e.pg 0 e = true := by
    unfold fitsE isE mayA foE
    rw [hk, m2, hr]
    simp
  have hmem : e ∈ F := by
    unfold inE at hin
    rcases placeE_tell (fun y => eqE y e) F 0 with ⟨h1, _⟩ | ⟨i, y, h1, h2, _, _⟩
    · rw [h1] at hin; omega
    · have : y = e := by simpa [eqE] using h2
      subst this
      exact List.mem_of_getElem? h1
  rcases fndE_tell (fitsE 2 e.vm 0 e.pg 0) F with ⟨_, h2⟩ | ⟨x, h1, h2, h3⟩
  · rw [h2 e hmem] at hfit
    cases hfit
  · rw [h3]
    unfold fitsE isE mayA foE at h2
    simp at h2
    obtain ⟨a1, ⟨a2, a3, a4⟩, a5⟩ := h2
    rw [a1] at a4
    simp at a4
    exact ⟨rfl, a4, a2, a5⟩
theorem own_apart {Q Q2 : Type} {K : RowK Q} {K2 : RowK Q2} {w w' : World} {base : Nat} {v v2 : Value} {L : List Q} {M : List Q2} (h1 : OwnR K w base v L) (h2 : OwnR K2 w' w.heap.size v2 M) : v2.ownBlock = none ∨ v2.ownBlock ≠ v.ownBlock := by
  cases hv : v2.ownBlock with
  | none => exact .inl rfl
  | some k =>
    refine .inr fun he => ?_
    have a := h1.blt k he.symm
    have b := h2.blk k hv
    omega
theorem OwnR.keptN {Q : Type} {K : RowK Q} {w w' : World} {base : Nat} {v : Value} {L : List Q} {row : Option Nat} (h : OwnR K w base v L) (hg : w.grownBy w' row) (hne : v.ownBlock = none ∨ v.ownBlock ≠ row) : OwnR K w' base v L := World.ownsRow.kept h hg hne
theorem eqE_same (f f2 : Option Addr) (l c l2 c2 : Nat) (L M : List Ety) (w : World) (he : L = M) (hL : RowsAt KE w f L) (hn : l = L.length) (hM : RowsAt KE w f2 M) (ho : l2 = M.length) (hl : l ≤ 1000000) :
    Calls Try.prog 34 #[.slice f l c, .slice f2 l2 c2] w fun r w' => r = .returned (.bool true) ∧ Below w.heap.size w w' := by
  have h := eqE_any f f2 l c l2 c2 L M w hL hn hM ho hl
  rw [decide_eq_true he] at h
  exact h
set_option maxRecDepth 100000 in
set_option maxHeartbeats 6400000 in
theorem only_walk (f g h : Option Addr) (l c m d n kk : Nat) (A : List Ac9) (w : World) (hl : l ≤ 1000000000000000) (hm : m ≤ 1000000000000000) (hn : n = A.length) (hn2 : n ≤ 1000000000000000) (hA : RowsAt K9 w h A) :
    Calls Try.prog 4 #[.agg #[.slice f l c, .slice g m d, .slice h n kk]] w fun r w' => r = .returned (.bool true) ∧ Below w.heap.size w w' := by
  have HH := Lib.hid (fun W => heavy9_any f g h l c m d n kk W hl hm)
  have HN := Lib.hid hn
  have HL := Lib.hid hA
  clear hn hA
  generalize (decide (200 < (l : Int) + (m : Int)) || decide (500 < (n : Int))) = hv at *
  have htw : w.heap.size ≤ w.heap.size := Nat.le_refl _
  have B0 := Lib.hid (Below.refl w.heap.size w)
  go_enter Try.func4, Try.ntmps4
  go_upto_region 1 with fail
  have P1 := Lib.hid ((BoxAt.newAt (w) #[.slice f l c, .slice g m d, .slice h n kk] 28 (w.heap.size) (by first | omega | (simp; done) | (simp; omega))))
  have B1 := Lib.hid ((bel_alloc B0.out (.cells #[.slice f l c, .slice g m d, .slice h n kk] 28)))
  obtain ⟨g1, hg1⟩ : ∃ g1, g1 = w.heap.size := ⟨_, rfl⟩
  obtain ⟨W1, hW1⟩ : ∃ W1, W1 = (w).alloc (.cells #[.slice f l c, .slice g m d, .slice h n kk] 28) := ⟨_, rfl⟩
  have hs1 : g1 + 1 ≤ W1.heap.size := by rw [hW1, hg1]; simp
  rw [← hW1] at P1 B1 ⊢
  have hb1 : w.heap.size ≤ g1 := by omega
  rw [← hg1] at P1 ⊢
  clear hg1
  clear hW1 B0
  have Pc0 := P1.out.get 0 (.slice f l c) rfl
  have Pc1 := P1.out.get 1 (.slice g m d) rfl
  have Pc2 := P1.out.get 2 (.slice h n kk) rfl
  go_wp2_with fail
  refine (HH.out _).mono ?_
  rintro e w2 ⟨rfl, hb2⟩
  have hz2 := hb2.size
  have P2 := Lib.hid (P1.out.below hb2)
  have B2 := Lib.hid (bel_trans B1.out hb2)
  skip
  have hs2 : g1 + 1 ≤ w2.heap.size := by omega
  clear Pc0 Pc1 Pc2
  clear P1 B1 hs1 hb2 hz2
  cases hv
  · go_upto_region 4 with fail
    have P3 := Lib.hid ((P2.out.alloc (.cells #[.slice none 0 0, .slice none 0 0] 25)))
    have T3 := Lib.hid ((BoxAt.newAt (w2) #[.slice none 0 0, .slice none 0 0] 25 (w2.heap.size) (by first | omega | (simp; done) | (simp; omega))))
    have B3 := Lib.hid ((bel_alloc B2.out (.cells #[.slice none 0 0, .slice none 0 0] 25)))
    obtain ⟨g3, hg3⟩ : ∃ g3, g3 = w2.heap.size := ⟨_, rfl⟩
    obtain ⟨W3, hW3⟩ : ∃ W3, W3 = (w2).alloc (.cells #[.slice none 0 0, .slice none 0 0] 25) := ⟨_, rfl⟩
    have hs3 : g3 + 1 ≤ W3.heap.size := by rw [hW3, hg3]; simp
    rw [← hW3] at P3 T3 B3 ⊢
    have hb3 : g1 + 1 ≤ g3 := by omega
    rw [← hg3] at T3 ⊢
    clear hg3
    clear hW3 P2 B2 hs2
    go_wp2
    go_loopw [4, 5] (fun s i wr => ∃ (k : Nat) (F : List Ety) (tf tg wf : Option Addr) (tl tc td wl wc : Nat), k ≤ n ∧ s = .slice wf wl wc ∧ i = .int .i64 k ∧ Hid (BoxAt wr (g1) #[.slice f l c, .slice g m d, .slice h n kk] 28) ∧ Hid (BoxAt wr (g3) #[.slice tf tl tc, .slice tg 0 td] 25) ∧ Hid (OwnR KE wr w.heap.size (.slice tf tl tc) F) ∧ Hid (OwnR KI wr w.heap.size (.slice tg 0 td) []) ∧ Hid (OwnR KE wr w.heap.size (.slice wf wl wc) F) ∧ Hid (mayT F [] = true) ∧ Hid (Below w.heap.size w wr)) (fun _ i _ => n - (intOf i).toNat)
    case atStart => exact ⟨0, [], none, none, none, 0, 0, 0, 0, 0, Nat.zero_le _, rfl, rfl, P3.out, T3.out, OwnR.nil _ _, OwnR.nil _ _, OwnR.nil _ _, rfl, B3.out⟩
    case round =>
      clear B3 P3 T3
      obtain ⟨k, F, tf, tg, wf, tl, tc, td, wl, wc, hk, rfl, rfl, Pr, Tr, Er, Dr, Vr, HMT, Br⟩ := hrel
      obtain ⟨mr, hmr⟩ : ∃ mr, mr = wr.heap.size := ⟨_, rfl⟩
      have hmg : g1 + 1 ≤ mr := by rw [hmr]; exact Pr.out.lt
      have hmt : g3 + 1 ≤ mr := by rw [hmr]; exact Tr.out.lt
      have hsr : mr ≤ wr.heap.size := by omega
      have HVB := Lib.hid (show ∀ j, (Value.slice wf wl wc).ownBlock = some j → j < mr from by rw [hmr]; exact Vr.out.blt)
      clear hmr
      by_cases hlt : k < n
      · by_cases h40 : k < 40
        · have d40 : decide ((k : Int) < 40) = true := decide_eq_true (by omega)
          obtain ⟨x, hx⟩ := rows_some HN.out hlt
          obtain ⟨b, o, rfl, hr0⟩ := HL.out k x hx
          have HRX := Lib.hid (show RowAt w b (o + k * 19) 19 #[.int .i64 x.d, .int .i64 x.n, .int .i64 x.vm, .int .i64 x.sp, .int .i64 x.acc, .int .i64 x.e.k, .int .i64 x.e.vm, .int .i64 x.e.sp, .bool x.e.al, .int .i64 x.e.pg, .int .i64 x.e.lv, .int .i64 x.e.fr, .int .i64 x.e.mi, .bool x.e.t.r, .bool x.e.t.w, .bool x.e.t.x, .bool x.e.t.a, .bool x.e.t.n, .int .i64 x.e.t.s] from hr0)
          have hbk : b < w.heap.size := hr0.lt
          clear hr0 hx
          have i1 : (0 : Int) ≤ (k : Int) := by omega
          have i2 : (k : Int) < (n : Int) := by omega
          have htl : tl ≤ 8 := by have h1 := Er.out.rows.1; have h2 := (mayT_len HMT.out).1; omega
          have hwl : wl ≤ 8 := by have h1 := Vr.out.rows.1; have h2 := (mayT_len HMT.out).1; omega
          cases hme : mayEn x.e
          · have hfi := fun W hE hD => fillO w.heap.size tf tg tl tc 0 td F [] x.e W hE hD (by omega) (by omega)
            rw [show fillR F [] x.e = ([], [], 1) from by unfold fillR; rw [hme, Bool.and_false]; rfl] at hfi
            simp only [EndF, entV, entC] at hfi
            have HFI := Lib.hid hfi
            clear hfi hme
            have Pc2 := Pr.out.get 2 (.slice (some ⟨b, o, none⟩) n kk) rfl
            have yX := (HRX.out.below Br.out)
            have yX5 := yX.get 5 (.int .i64 x.e.k) (by decide) rfl
            have yX6 := yX.get 6 (.int .i64 x.e.vm) (by decide) rfl
            have yX7 := yX.get 7 (.int .i64 x.e.sp) (by decide) rfl
            have yX8 := yX.get 8 (.bool x.e.al) (by decide) rfl
            have yX9 := yX.get 9 (.int .i64 x.e.pg) (by decide) rfl
            have yX10 := yX.get 10 (.int .i64 x.e.lv) (by decide) rfl
            have yX11 := yX.get 11 (.int .i64 x.e.fr) (by decide) rfl
            have yX12 := yX.get 12 (.int .i64 x.e.mi) (by decide) rfl
            have yX13 := yX.get 13 (.bool x.e.t.r) (by decide) rfl
            have yX14 := yX.get 14 (.bool x.e.t.w) (by decide) rfl
            have yX15 := yX.get 15 (.bool x.e.t.x) (by decide) rfl
            have yX16 := yX.get 16 (.bool x.e.t.a) (by decide) rfl
            have yX17 := yX.get 17 (.bool x.e.t.n) (by decide) rfl
            have yX18 := yX.get 18 (.int .i64 x.e.t.s) (by decide) rfl
            clear yX
            go_upto_region 9 with fail
            clear Pc2 yX5 yX6 yX7 yX8 yX9 yX10 yX11 yX12 yX13 yX14 yX15 yX16 yX17 yX18
            have P4 := Lib.hid ((Pr.out.alloc (.cells #[.int .i64 x.e.k, .int .i64 x.e.vm, .int .i64 x.e.sp, .bool x.e.al, .int .i64 x.e.pg, .int .i64 x.e.lv, .int .i64 x.e.fr, .int .i64 x.e.mi, .bool x.e.t.r, .bool x.e.t.w, .bool x.e.t.x, .bool x.e.t.a, .bool x.e.t.n, .int .i64 x.e.t.s] 34)))
            have T4 := Lib.hid ((Tr.out.alloc (.cells #[.int .i64 x.e.k, .int .i64 x.e.vm, .int .i64 x.e.sp, .bool x.e.al, .int .i64 x.e.pg, .int .i64 x.e.lv, .int .i64 x.e.fr, .int .i64 x.e.mi, .bool x.e.t.r, .bool x.e.t.w, .bool x.e.t.x, .bool x.e.t.a, .bool x.e.t.n, .int .i64 x.e.t.s] 34)))
            have X4 := Lib.hid ((BoxAt.newAt (wr) #[.int .i64 x.e.k, .int .i64 x.e.vm, .int .i64 x.e.sp, .bool x.e.al, .int .i64 x.e.pg, .int .i64 x.e.lv, .int .i64 x.e.fr, .int .i64 x.e.mi, .bool x.e.t.r, .bool x.e.t.w, .bool x.e.t.x, .bool x.e.t.a, .bool x.e.t.n, .int .i64 x.e.t.s] 34 (wr.heap.size) (by first | omega | (simp; done) | (simp; omega))))
            have E4 := Lib.hid ((Er.out.alloc (.cells #[.int .i64 x.e.k, .int .i64 x.e.vm, .int .i64 x.e.sp, .bool x.e.al, .int .i64 x.e.pg, .int .i64 x.e.lv, .int .i64 x.e.fr, .int .i64 x.e.mi, .bool x.e.t.r, .bool x.e.t.w, .bool x.e.t.x, .bool x.e.t.a, .bool x.e.t.n, .int .i64 x.e.t.s] 34)))
            have D4 := Lib.hid ((Dr.out.alloc (.cells #[.int .i64 x.e.k, .int .i64 x.e.vm, .int .i64 x.e.sp, .bool x.e.al, .int .i64 x.e.pg, .int .i64 x.e.lv, .int .i64 x.e.fr, .int .i64 x.e.mi, .bool x.e.t.r, .bool x.e.t.w, .bool x.e.t.x, .bool x.e.t.a, .bool x.e.t.n, .int .i64 x.e.t.s] 34)))
            have V4 := Lib.hid ((Vr.out.alloc (.cells #[.int .i64 x.e.k, .int .i64 x.e.vm, .int .i64 x.e.sp, .bool x.e.al, .int .i64 x.e.pg, .int .i64 x.e.lv, .int .i64 x.e.fr, .int .i64 x.e.mi, .bool x.e.t.r, .bool x.e.t.w, .bool x.e.t.x, .bool x.e.t.a, .bool x.e.t.n, .int .i64 x.e.t.s] 34)))
            have B4 := Lib.hid ((bel_alloc Br.out (.cells #[.int .i64 x.e.k, .int .i64 x.e.vm, .int .i64 x.e.sp, .bool x.e.al, .int .i64 x.e.pg, .int .i64 x.e.lv, .int .i64 x.e.fr, .int .i64 x.e.mi, .bool x.e.t.r, .bool x.e.t.w, .bool x.e.t.x, .bool x.e.t.a, .bool x.e.t.n, .int .i64 x.e.t.s] 34)))
            obtain ⟨g4, hg4⟩ : ∃ g4, g4 = wr.heap.size := ⟨_, rfl⟩
            obtain ⟨W4, hW4⟩ : ∃ W4, W4 = (wr).alloc (.cells #[.int .i64 x.e.k, .int .i64 x.e.vm, .int .i64 x.e.sp, .bool x.e.al, .int .i64 x.e.pg, .int .i64 x.e.lv, .int .i64 x.e.fr, .int .i64 x.e.mi, .bool x.e.t.r, .bool x.e.t.w, .bool x.e.t.x, .bool x.e.t.a, .bool x.e.t.n, .int .i64 x.e.t.s] 34) := ⟨_, rfl⟩
            have hs4 : g4 + 1 ≤ W4.heap.size := by rw [hW4, hg4]; simp
            rw [← hW4] at P4 T4 X4 E4 D4 V4 B4 ⊢
            have hb4 : mr ≤ g4 := by omega
            rw [← hg4] at X4 ⊢
            clear hg4
            clear hW4 Pr Tr Er Dr Vr Br hsr
            have Tc0 := T4.out.get 0 (.slice tf tl tc) rfl
            have Tc1 := T4.out.get 1 (.slice tg 0 td) rfl
            have Xc0 := X4.out.get 0 (.int .i64 x.e.k) rfl
            have Xc1 := X4.out.get 1 (.int .i64 x.e.vm) rfl
            have Xc2 := X4.out.get 2 (.int .i64 x.e.sp) rfl
            have Xc3 := X4.out.get 3 (.bool x.e.al) rfl
            have Xc4 := X4.out.get 4 (.int .i64 x.e.pg) rfl
            have Xc5 := X4.out.get 5 (.int .i64 x.e.lv) rfl
            have Xc6 := X4.out.get 6 (.int .i64 x.e.fr) rfl
            have Xc7 := X4.out.get 7 (.int .i64 x.e.mi) rfl
            have Xc8 := X4.out.get 8 (.bool x.e.t.r) rfl
            have Xc9 := X4.out.get 9 (.bool x.e.t.w) rfl
            have Xc10 := X4.out.get 10 (.bool x.e.t.x) rfl
            have Xc11 := X4.out.get 11 (.bool x.e.t.a) rfl
            have Xc12 := X4.out.get 12 (.bool x.e.t.n) rfl
            have Xc13 := X4.out.get 13 (.int .i64 x.e.t.s) rfl
            go_wp2_with fail
            refine (HFI.out _ (E4.out) (D4.out)).mono ?_
            rintro e w5 ⟨f5, l5, c5, g5, m5, d5, rfl, hl5, hm5, hE5, hD5, hb5⟩
            obtain rfl : l5 = 0 := hl5
            obtain rfl : m5 = 0 := hm5
            have OE5 := Lib.hid (OwnR.mono hE5 (base' := w.heap.size) (by first | omega | (simp; done) | (simp; omega)))
            have OD5 := Lib.hid (OwnR.mono hD5 (base' := w.heap.size) (by first | omega | (simp; done) | (simp; omega)))
            clear hE5 hD5
            have hz5 := hb5.size
            have P5 := Lib.hid (P4.out.below hb5)
            have T5 := Lib.hid (T4.out.below hb5)
            have X5 := Lib.hid (X4.out.below hb5)
            have E5 := Lib.hid (E4.out.below hb5)
            have D5 := Lib.hid (D4.out.below hb5)
            have V5 := Lib.hid (V4.out.below hb5)
            have B5 := Lib.hid (bel_trans B4.out hb5)
            skip
            have hs5 : g4 + 1 ≤ w5.heap.size := by omega
            clear Tc0 Tc1 Xc0 Xc1 Xc2 Xc3 Xc4 Xc5 Xc6 Xc7 Xc8 Xc9 Xc10 Xc11 Xc12 Xc13
            clear P4 T4 X4 E4 D4 V4 B4 hs4 hb5 hz5
            go_upto_region 10 with fail
            have P6 := Lib.hid ((P5.out.alloc (.cells #[.slice f5 0 c5, .slice g5 0 d5] 25)))
            have T6 := Lib.hid ((T5.out.alloc (.cells #[.slice f5 0 c5, .slice g5 0 d5] 25)))
            have X6 := Lib.hid ((X5.out.alloc (.cells #[.slice f5 0 c5, .slice g5 0 d5] 25)))
            have Z6 := Lib.hid ((BoxAt.newAt (w5) #[.slice f5 0 c5, .slice g5 0 d5] 25 (w5.heap.size) (by first | omega | (simp; done) | (simp; omega))))
            have E6 := Lib.hid ((E5.out.alloc (.cells #[.slice f5 0 c5, .slice g5 0 d5] 25)))
            have D6 := Lib.hid ((D5.out.alloc (.cells #[.slice f5 0 c5, .slice g5 0 d5] 25)))
            have V6 := Lib.hid ((V5.out.alloc (.cells #[.slice f5 0 c5, .slice g5 0 d5] 25)))
            have E26 := Lib.hid ((OE5.out.alloc (.cells #[.slice f5 0 c5, .slice g5 0 d5] 25)))
            have D26 := Lib.hid ((OD5.out.alloc (.cells #[.slice f5 0 c5, .slice g5 0 d5] 25)))
            have B6 := Lib.hid ((bel_alloc B5.out (.cells #[.slice f5 0 c5, .slice g5 0 d5] 25)))
            obtain ⟨g6, hg6⟩ : ∃ g6, g6 = w5.heap.size := ⟨_, rfl⟩
            obtain ⟨W6, hW6⟩ : ∃ W6, W6 = (w5).alloc (.cells #[.slice f5 0 c5, .slice g5 0 d5] 25) := ⟨_, rfl⟩
            have hs6 : g6 + 1 ≤ W6.heap.size := by rw [hW6, hg6]; simp
            rw [← hW6] at P6 T6 X6 Z6 E6 D6 V6 E26 D26 B6 ⊢
            have hb6 : g4 + 1 ≤ g6 := by omega
            rw [← hg6] at Z6 ⊢
            clear hg6
            clear hW6 P5 T5 X5 E5 D5 V5 OE5 OD5 B5 hs5
            go_wp2_with fail
            refine (num9_any _ _).mono ?_
            rintro e w7 ⟨rfl, rfl⟩
            go_wp2
            go_roundw
            case rel => exact ⟨k + 1, F, tf, tg, wf, tl, tc, td, wl, wc, by omega, rfl, by go_num, P6.out, T6.out, E6.out, D6.out, V6.out, HMT.out, B6.out⟩
            case measure => simp [intOf]; omega
          · have hfi := fun W hE hD => fillO w.heap.size tf tg tl tc 0 td F [] x.e W hE hD (by omega) (by omega)
            rw [show fillR F [] x.e = (fill9 F x.e, [], 0) from by unfold fillR; rw [hme, HMT.out]; rfl] at hfi
            simp only [EndF, entV, entC] at hfi
            have HM2 := Lib.hid (mayT_fill HMT.out hme)
            have hf2 : fill9 F x.e = if inE F x.e < 0 ∧ F.length < 8 then F ++ [x.e] else F := rfl
            generalize fill9 F x.e = F2 at *
            have HM8 := Lib.hid (mayT_len HM2.out).1
            have HFI := Lib.hid hfi
            have HVN := Lib.hid Vr.out.rows.1
            have HME := Lib.hid hme
            obtain ⟨n1, hn1⟩ : ∃ n1, n1 = inE F x.e := ⟨_, rfl⟩
            rw [← hn1] at hf2
            have hin := fun (f9 : Option Addr) (l9 c9 : Nat) W h1 h2 h3 => in9_any f9 l9 c9 F x.e W h1 h2 h3
            rw [← hn1] at hin
            have HIN := Lib.hid hin
            clear hin hn1
            have HF0 := Lib.hid hf2
            clear hfi hme hf2
            have Pc2 := Pr.out.get 2 (.slice (some ⟨b, o, none⟩) n kk) rfl
            have yX := (HRX.out.below Br.out)
            have yX5 := yX.get 5 (.int .i64 x.e.k) (by decide) rfl
            have yX6 := yX.get 6 (.int .i64 x.e.vm) (by decide) rfl
            have yX7 := yX.get 7 (.int .i64 x.e.sp) (by decide) rfl
            have yX8 := yX.get 8 (.bool x.e.al) (by decide) rfl
            have yX9 := yX.get 9 (.int .i64 x.e.pg) (by decide) rfl
            have yX10 := yX.get 10 (.int .i64 x.e.lv) (by decide) rfl
            have yX11 := yX.get 11 (.int .i64 x.e.fr) (by decide) rfl
            have yX12 := yX.get 12 (.int .i64 x.e.mi) (by decide) rfl
            have yX13 := yX.get 13 (.bool x.e.t.r) (by decide) rfl
            have yX14 := yX.get 14 (.bool x.e.t.w) (by decide) rfl
            have yX15 := yX.get 15 (.bool x.e.t.x) (by decide) rfl
            have yX16 := yX.get 16 (.bool x.e.t.a) (by decide) rfl
            have yX17 := yX.get 17 (.bool x.e.t.n) (by decide) rfl
            have yX18 := yX.get 18 (.int .i64 x.e.t.s) (by decide) rfl
            clear yX
            go_upto_region 9 with fail
            clear Pc2 yX5 yX6 yX7 yX8 yX9 yX10 yX11 yX12 yX13 yX14 yX15 yX16 yX17 yX18
            have P4 := Lib.hid ((Pr.out.alloc (.cells #[.int .i64 x.e.k, .int .i64 x.e.vm, .int .i64 x.e.sp, .bool x.e.al, .int .i64 x.e.pg, .int .i64 x.e.lv, .int .i64 x.e.fr, .int .i64 x.e.mi, .bool x.e.t.r, .bool x.e.t.w, .bool x.e.t.x, .bool x.e.t.a, .bool x.e.t.n, .int .i64 x.e.t.s] 34)))
            have T4 := Lib.hid ((Tr.out.alloc (.cells #[.int .i64 x.e.k, .int .i64 x.e.vm, .int .i64 x.e.sp, .bool x.e.al, .int .i64 x.e.pg, .int .i64 x.e.lv, .int .i64 x.e.fr, .int .i64 x.e.mi, .bool x.e.t.r, .bool x.e.t.w, .bool x.e.t.x, .bool x.e.t.a, .bool x.e.t.n, .int .i64 x.e.t.s] 34)))
            have X4 := Lib.hid ((BoxAt.newAt (wr) #[.int .i64 x.e.k, .int .i64 x.e.vm, .int .i64 x.e.sp, .bool x.e.al, .int .i64 x.e.pg, .int .i64 x.e.lv, .int .i64 x.e.fr, .int .i64 x.e.mi, .bool x.e.t.r, .bool x.e.t.w, .bool x.e.t.x, .bool x.e.t.a, .bool x.e.t.n, .int .i64 x.e.t.s] 34 (wr.heap.size) (by first | omega | (simp; done) | (simp; omega))))
            have E4 := Lib.hid ((Er.out.alloc (.cells #[.int .i64 x.e.k, .int .i64 x.e.vm, .int .i64 x.e.sp, .bool x.e.al, .int .i64 x.e.pg, .int .i64 x.e.lv, .int .i64 x.e.fr, .int .i64 x.e.mi, .bool x.e.t.r, .bool x.e.t.w, .bool x.e.t.x, .bool x.e.t.a, .bool x.e.t.n, .int .i64 x.e.t.s] 34)))
            have D4 := Lib.hid ((Dr.out.alloc (.cells #[.int .i64 x.e.k, .int .i64 x.e.vm, .int .i64 x.e.sp, .bool x.e.al, .int .i64 x.e.pg, .int .i64 x.e.lv, .int .i64 x.e.fr, .int .i64 x.e.mi, .bool x.e.t.r, .bool x.e.t.w, .bool x.e.t.x, .bool x.e.t.a, .bool x.e.t.n, .int .i64 x.e.t.s] 34)))
            have V4 := Lib.hid ((Vr.out.alloc (.cells #[.int .i64 x.e.k, .int .i64 x.e.vm, .int .i64 x.e.sp, .bool x.e.al, .int .i64 x.e.pg, .int .i64 x.e.lv, .int .i64 x.e.fr, .int .i64 x.e.mi, .bool x.e.t.r, .bool x.e.t.w, .bool x.e.t.x, .bool x.e.t.a, .bool x.e.t.n, .int .i64 x.e.t.s] 34)))
            have B4 := Lib.hid ((bel_alloc Br.out (.cells #[.int .i64 x.e.k, .int .i64 x.e.vm, .int .i64 x.e.sp, .bool x.e.al, .int .i64 x.e.pg, .int .i64 x.e.lv, .int .i64 x.e.fr, .int .i64 x.e.mi, .bool x.e.t.r, .bool x.e.t.w, .bool x.e.t.x, .bool x.e.t.a, .bool x.e.t.n, .int .i64 x.e.t.s] 34)))
            obtain ⟨g4, hg4⟩ : ∃ g4, g4 = wr.heap.size := ⟨_, rfl⟩
            obtain ⟨W4, hW4⟩ : ∃ W4, W4 = (wr).alloc (.cells #[.int .i64 x.e.k, .int .i64 x.e.vm, .int .i64 x.e.sp, .bool x.e.al, .int .i64 x.e.pg, .int .i64 x.e.lv, .int .i64 x.e.fr, .int .i64 x.e.mi, .bool x.e.t.r, .bool x.e.t.w, .bool x.e.t.x, .bool x.e.t.a, .bool x.e.t.n, .int .i64 x.e.t.s] 34) := ⟨_, rfl⟩
            have hs4 : g4 + 1 ≤ W4.heap.size := by rw [hW4, hg4]; simp
            rw [← hW4] at P4 T4 X4 E4 D4 V4 B4 ⊢
            have hb4 : mr ≤ g4 := by omega
            rw [← hg4] at X4 ⊢
            clear hg4
            clear hW4 Pr Tr Er Dr Vr Br hsr
            have Tc0 := T4.out.get 0 (.slice tf tl tc) rfl
            have Tc1 := T4.out.get 1 (.slice tg 0 td) rfl
            have Xc0 := X4.out.get 0 (.int .i64 x.e.k) rfl
            have Xc1 := X4.out.get 1 (.int .i64 x.e.vm) rfl
            have Xc2 := X4.out.get 2 (.int .i64 x.e.sp) rfl
            have Xc3 := X4.out.get 3 (.bool x.e.al) rfl
            have Xc4 := X4.out.get 4 (.int .i64 x.e.pg) rfl
            have Xc5 := X4.out.get 5 (.int .i64 x.e.lv) rfl
            have Xc6 := X4.out.get 6 (.int .i64 x.e.fr) rfl
            have Xc7 := X4.out.get 7 (.int .i64 x.e.mi) rfl
            have Xc8 := X4.out.get 8 (.bool x.e.t.r) rfl
            have Xc9 := X4.out.get 9 (.bool x.e.t.w) rfl
            have Xc10 := X4.out.get 10 (.bool x.e.t.x) rfl
            have Xc11 := X4.out.get 11 (.bool x.e.t.a) rfl
            have Xc12 := X4.out.get 12 (.bool x.e.t.n) rfl
            have Xc13 := X4.out.get 13 (.int .i64 x.e.t.s) rfl
            go_wp2_with fail
            refine (HFI.out _ (E4.out) (D4.out)).mono ?_
            rintro e w5 ⟨f5, l5, c5, g5, m5, d5, rfl, hl5, hm5, hE5, hD5, hb5⟩
            have HNE5 := Lib.hid (own_apart (V4.out) hE5)
            obtain rfl : m5 = 0 := hm5
            have hl85 : l5 ≤ 8 := Nat.le_trans (Nat.le_of_eq hl5) HM8.out
            have HL5 := Lib.hid hl5
            have OE5 := Lib.hid (OwnR.mono hE5 (base' := w.heap.size) (by first | omega | (simp; done) | (simp; omega)))
            have OD5 := Lib.hid (OwnR.mono hD5 (base' := w.heap.size) (by first | omega | (simp; done) | (simp; omega)))
            clear hE5 hD5 hl5
            have hz5 := hb5.size
            have P5 := Lib.hid (P4.out.below hb5)
            have T5 := Lib.hid (T4.out.below hb5)
            have X5 := Lib.hid (X4.out.below hb5)
            have E5 := Lib.hid (E4.out.below hb5)
            have D5 := Lib.hid (D4.out.below hb5)
            have V5 := Lib.hid (V4.out.below hb5)
            have B5 := Lib.hid (bel_trans B4.out hb5)
            skip
            have hs5 : g4 + 1 ≤ w5.heap.size := by omega
            clear Tc0 Tc1 Xc0 Xc1 Xc2 Xc3 Xc4 Xc5 Xc6 Xc7 Xc8 Xc9 Xc10 Xc11 Xc12 Xc13
            clear P4 T4 X4 E4 D4 V4 B4 hs4 hb5 hz5
            go_upto_region 10 with fail
            have P6 := Lib.hid ((P5.out.alloc (.cells #[.slice f5 l5 c5, .slice g5 0 d5] 25)))
            have T6 := Lib.hid ((T5.out.alloc (.cells #[.slice f5 l5 c5, .slice g5 0 d5] 25)))
            have X6 := Lib.hid ((X5.out.alloc (.cells #[.slice f5 l5 c5, .slice g5 0 d5] 25)))
            have Z6 := Lib.hid ((BoxAt.newAt (w5) #[.slice f5 l5 c5, .slice g5 0 d5] 25 (w5.heap.size) (by first | omega | (simp; done) | (simp; omega))))
            have E6 := Lib.hid ((E5.out.alloc (.cells #[.slice f5 l5 c5, .slice g5 0 d5] 25)))
            have D6 := Lib.hid ((D5.out.alloc (.cells #[.slice f5 l5 c5, .slice g5 0 d5] 25)))
            have V6 := Lib.hid ((V5.out.alloc (.cells #[.slice f5 l5 c5, .slice g5 0 d5] 25)))
            have E26 := Lib.hid ((OE5.out.alloc (.cells #[.slice f5 l5 c5, .slice g5 0 d5] 25)))
            have D26 := Lib.hid ((OD5.out.alloc (.cells #[.slice f5 l5 c5, .slice g5 0 d5] 25)))
            have B6 := Lib.hid ((bel_alloc B5.out (.cells #[.slice f5 l5 c5, .slice g5 0 d5] 25)))
            obtain ⟨g6, hg6⟩ : ∃ g6, g6 = w5.heap.size := ⟨_, rfl⟩
            obtain ⟨W6, hW6⟩ : ∃ W6, W6 = (w5).alloc (.cells #[.slice f5 l5 c5, .slice g5 0 d5] 25) := ⟨_, rfl⟩
            have hs6 : g6 + 1 ≤ W6.heap.size := by rw [hW6, hg6]; simp
            rw [← hW6] at P6 T6 X6 Z6 E6 D6 V6 E26 D26 B6 ⊢
            have hb6 : g4 + 1 ≤ g6 := by omega
            rw [← hg6] at Z6 ⊢
            clear hg6
            clear hW6 P5 T5 X5 E5 D5 V5 OE5 OD5 B5 hs5
            go_wp2_with fail
            refine (num9_any _ _).mono ?_
            rintro e w7 ⟨rfl, rfl⟩
            have Xc0 := X6.out.get 0 (.int .i64 x.e.k) rfl
            have Xc1 := X6.out.get 1 (.int .i64 x.e.vm) rfl
            have Xc2 := X6.out.get 2 (.int .i64 x.e.sp) rfl
            have Xc3 := X6.out.get 3 (.bool x.e.al) rfl
            have Xc4 := X6.out.get 4 (.int .i64 x.e.pg) rfl
            have Xc5 := X6.out.get 5 (.int .i64 x.e.lv) rfl
            have Xc6 := X6.out.get 6 (.int .i64 x.e.fr) rfl
            have Xc7 := X6.out.get 7 (.int .i64 x.e.mi) rfl
            have Xc8 := X6.out.get 8 (.bool x.e.t.r) rfl
            have Xc9 := X6.out.get 9 (.bool x.e.t.w) rfl
            have Xc10 := X6.out.get 10 (.bool x.e.t.x) rfl
            have Xc11 := X6.out.get 11 (.bool x.e.t.a) rfl
            have Xc12 := X6.out.get 12 (.bool x.e.t.n) rfl
            have Xc13 := X6.out.get 13 (.int .i64 x.e.t.s) rfl
            go_wp2_with fail
            refine (HIN.out wf wl wc _ (V6.out).rows.2 (V6.out).rows.1 (by omega)).mono ?_
            rintro e w8 ⟨rfl, hb8⟩
            have hz8 := hb8.size
            have P8 := Lib.hid (P6.out.below hb8)
            have T8 := Lib.hid (T6.out.below hb8)
            have X8 := Lib.hid (X6.out.below hb8)
            have Z8 := Lib.hid (Z6.out.below hb8)
            have E8 := Lib.hid (E6.out.below hb8)
            have D8 := Lib.hid (D6.out.below hb8)
            have V8 := Lib.hid (V6.out.below hb8)
            have E28 := Lib.hid (E26.out.below hb8)
            have D28 := Lib.hid (D26.out.below hb8)
            have B8 := Lib.hid (bel_trans B6.out hb8)
            skip
            have hs8 : g6 + 1 ≤ w8.heap.size := by omega
            clear Xc0 Xc1 Xc2 Xc3 Xc4 Xc5 Xc6 Xc7 Xc8 Xc9 Xc10 Xc11 Xc12 Xc13
            clear P6 T6 X6 Z6 E6 D6 V6 E26 D26 B6 hs6 hb8 hz8
            by_cases h1 : n1 < 0
            rotate_left
            · have dn1 : decide (n1 < 0) = false := decide_eq_false h1
              have HF := Lib.hid (show F = F2 from by rw [HF0.out, if_neg (fun h => h1 h.1)])
              clear h1
              have Zc0 := Z8.out.get 0 (.slice f5 l5 c5) rfl
              have V99 := Lib.hid (show OwnR KE w8 w.heap.size (.slice wf wl wc) F2 from by rw [← HF.out]; exact V8.out)
              clear V8
              have hvl9 : wl ≤ 9 := by omega
              go_wp2_with fail
              refine (eqE_same f5 wf l5 c5 wl wc F2 F2 _ rfl (E28.out).rows.2 HL5.out (V99.out).rows.2 (V99.out).rows.1 (by omega)).mono ?_
              rintro e w9 ⟨rfl, hb9⟩
              have hz9 := hb9.size
              have P9 := Lib.hid (P8.out.below hb9)
              have T9 := Lib.hid (T8.out.below hb9)
              have X9 := Lib.hid (X8.out.below hb9)
              have Z9 := Lib.hid (Z8.out.below hb9)
              have E9 := Lib.hid (E8.out.below hb9)
              have D9 := Lib.hid (D8.out.below hb9)
              have V9 := Lib.hid (V99.out.below hb9)
              have E29 := Lib.hid (E28.out.below hb9)
              have D29 := Lib.hid (D28.out.below hb9)
              have B9 := Lib.hid (bel_trans B8.out hb9)
              skip
              have hs9 : g6 + 1 ≤ w9.heap.size := by omega
              clear Zc0
              clear P8 T8 X8 Z8 E8 D8 V99 E28 D28 B8 hs8 hb9 hz9
              have Zc0 := Z9.out.get 0 (.slice f5 l5 c5) rfl
              have Zc1 := Z9.out.get 1 (.slice g5 0 d5) rfl
              go_upto_region 16 with (refine wpList_storeB rfl 25 _ _ rfl (g3) #[.slice f5 l5 c5, .slice g5 0 d5] _ 25 rfl rfl (by kernel_rfl) (by rfl) (by simp [Value.oneCell']) T9.out ?_)
              clear Zc0 Zc1
              have P10 := Lib.hid ((P9.out.row (cs' := #[.slice f5 l5 c5, .slice g5 0 d5]) (show g1 ≠ g3 by omega)))
              have T10 := Lib.hid ((T9.out.put (cs' := #[.slice f5 l5 c5, .slice g5 0 d5])))
              have X10 := Lib.hid ((X9.out.row (cs' := #[.slice f5 l5 c5, .slice g5 0 d5]) (show g4 ≠ g3 by omega)))
              have Z10 := Lib.hid ((Z9.out.row (cs' := #[.slice f5 l5 c5, .slice g5 0 d5]) (show g6 ≠ g3 by omega)))
              have E10 := Lib.hid ((E9.out.rowN (cs := #[.slice f5 l5 c5, .slice g5 0 d5]) (E9.out.ne_box T9.out (by decide))))
              have D10 := Lib.hid ((D9.out.rowN (cs := #[.slice f5 l5 c5, .slice g5 0 d5]) (D9.out.ne_box T9.out (by decide))))
              have V10 := Lib.hid ((V9.out.rowN (cs := #[.slice f5 l5 c5, .slice g5 0 d5]) (V9.out.ne_box T9.out (by decide))))
              have E210 := Lib.hid ((E29.out.rowN (cs := #[.slice f5 l5 c5, .slice g5 0 d5]) (E29.out.ne_box T9.out (by decide))))
              have D210 := Lib.hid ((D29.out.rowN (cs := #[.slice f5 l5 c5, .slice g5 0 d5]) (D29.out.ne_box T9.out (by decide))))
              have B10 := Lib.hid ((Below.rowB (g := g3) B9.out (cs := #[.slice f5 l5 c5, .slice g5 0 d5]) (show w.heap.size ≤ g3 by omega)))
              obtain ⟨W10, hW10⟩ : ∃ W10, W10 = (w9).setRow (g3) #[.slice f5 l5 c5, .slice g5 0 d5] := ⟨_, rfl⟩
              have hs10 : g6 + 1 ≤ W10.heap.size := by rw [hW10]; first | exact hs9 | omega | (simp; omega)
              rw [← hW10] at P10 T10 X10 Z10 E10 D10 V10 E210 D210 B10 ⊢
              clear hW10 P9 T9 X9 Z9 E9 D9 V9 E29 D29 B9 hs9
              have Xc0 := X10.out.get 0 (.int .i64 x.e.k) rfl
              cases hk2 : decide (x.e.k = 2)
              · have ek2 : (x.e.k == 2) = false := (beq_int _ _).trans hk2
                clear hk2
                go_wp2
                go_roundw
                case rel => exact ⟨k + 1, F2, f5, g5, wf, l5, c5, d5, wl, wc, by omega, rfl, by go_num, P10.out, T10.out, E210.out, D210.out, V10.out, HM2.out, B10.out⟩
                case measure => simp [intOf]; omega
              have ek2 : (x.e.k == 2) = true := (beq_int _ _).trans hk2
              have Xc8 := X10.out.get 8 (.bool x.e.t.r) rfl
              cases hr : x.e.t.r
              · rw [hr] at X10
                go_wp2
                go_roundw
                case rel => exact ⟨k + 1, F2, f5, g5, wf, l5, c5, d5, wl, wc, by omega, rfl, by go_num, P10.out, T10.out, E210.out, D210.out, V10.out, HM2.out, B10.out⟩
                case measure => simp [intOf]; omega
              rw [hr] at X10
              obtain ⟨q1, q2, hq⟩ : ∃ q1 q2, (q1, q2) = firstR F2 [] 2 x.e.vm 0 x.e.pg 0 := ⟨_, _, rfl⟩
              have HMD := Lib.hid (show 0 ≤ inE F2 x.e → q2 = 0 ∧ q1.pg = x.e.pg ∧ q1.vm = x.e.vm ∧ q1.t.r = true from fun h => by have h9 := mid_found HM2.out HME.out (of_decide_eq_true hk2) hr h; rw [← hq] at h9; exact h9)
              have hmi := fun W hE hD => midO w.heap.size f5 g5 l5 c5 0 d5 F2 [] x.e.vm x.e.pg 0 W hE hD (by omega) (by omega)
              rw [← hq] at hmi
              simp only [entV, entC] at hmi
              have HMI := Lib.hid hmi
              clear hmi hq
              have Tc0 := T10.out.get 0 (.slice f5 l5 c5) rfl
              have Tc1 := T10.out.get 1 (.slice g5 0 d5) rfl
              have Xc1 := X10.out.get 1 (.int .i64 x.e.vm) rfl
              have Xc4 := X10.out.get 4 (.int .i64 x.e.pg) rfl
              go_wp2_with fail
              refine (HMI.out _ (E210.out) (D210.out)).mono ?_
              rintro e w11 ⟨rfl, hb11⟩
              have hz11 := hb11.size
              have P11 := Lib.hid (P10.out.below hb11)
              have T11 := Lib.hid (T10.out.below hb11)
              have X11 := Lib.hid (X10.out.below hb11)
              have Z11 := Lib.hid (Z10.out.below hb11)
              have E11 := Lib.hid (E10.out.below hb11)
              have D11 := Lib.hid (D10.out.below hb11)
              have V11 := Lib.hid (V10.out.below hb11)
              have E211 := Lib.hid (E210.out.below hb11)
              have D211 := Lib.hid (D210.out.below hb11)
              have B11 := Lib.hid (bel_trans B10.out hb11)
              skip
              have hs11 : g6 + 1 ≤ w11.heap.size := by omega
              clear Xc0 Xc8 Tc0 Tc1 Xc1 Xc4
              clear P10 T10 X10 Z10 E10 D10 V10 E210 D210 B10 hs10 hb11 hz11
              obtain ⟨n2, hn2⟩ : ∃ n2, n2 = inE F2 x.e := ⟨_, rfl⟩
              have hin2 := fun (f9 : Option Addr) (l9 c9 : Nat) W h1 h2 h3 => in9_any f9 l9 c9 F2 x.e W h1 h2 h3
              rw [← hn2] at hin2
              simp only [entV, entC] at hin2
              rw [hr] at hin2
              have HIN2 := Lib.hid hin2
              have HN2 := Lib.hid hn2
              clear hin2 hn2
              go_upto_region 18 with fail
              have P12 := Lib.hid ((P11.out.alloc (.cells #[.int .i64 q1.k, .int .i64 q1.vm, .int .i64 q1.sp, .bool q1.al, .int .i64 q1.pg, .int .i64 q1.lv, .int .i64 q1.fr, .int .i64 q1.mi, .bool q1.t.r, .bool q1.t.w, .bool q1.t.x, .bool q1.t.a, .bool q1.t.n, .int .i64 q1.t.s] 34)))
              have T12 := Lib.hid ((T11.out.alloc (.cells #[.int .i64 q1.k, .int .i64 q1.vm, .int .i64 q1.sp, .bool q1.al, .int .i64 q1.pg, .int .i64 q1.lv, .int .i64 q1.fr, .int .i64 q1.mi, .bool q1.t.r, .bool q1.t.w, .bool q1.t.x, .bool q1.t.a, .bool q1.t.n, .int .i64 q1.t.s] 34)))
              have X12 := Lib.hid ((X11.out.alloc (.cells #[.int .i64 q1.k, .int .i64 q1.vm, .int .i64 q1.sp, .bool q1.al, .int .i64 q1.pg, .int .i64 q1.lv, .int .i64 q1.fr, .int .i64 q1.mi, .bool q1.t.r, .bool q1.t.w, .bool q1.t.x, .bool q1.t.a, .bool q1.t.n, .int .i64 q1.t.s] 34)))
              have Z12 := Lib.hid ((Z11.out.alloc (.cells #[.int .i64 q1.k, .int .i64 q1.vm, .int .i64 q1.sp, .bool q1.al, .int .i64 q1.pg, .int .i64 q1.lv, .int .i64 q1.fr, .int .i64 q1.mi, .bool q1.t.r, .bool q1.t.w, .bool q1.t.x, .bool q1.t.a, .bool q1.t.n, .int .i64 q1.t.s] 34)))
              have Y12 := Lib.hid ((BoxAt.newAt (w11) #[.int .i64 q1.k, .int .i64 q1.vm, .int .i64 q1.sp, .bool q1.al, .int .i64 q1.pg, .int .i64 q1.lv, .int .i64 q1.fr, .int .i64 q1.mi, .bool q1.t.r, .bool q1.t.w, .bool q1.t.x, .bool q1.t.a, .bool q1.t.n, .int .i64 q1.t.s] 34 (w11.heap.size) (by first | omega | (simp; done) | (simp; omega))))
              have E12 := Lib.hid ((E11.out.alloc (.cells #[.int .i64 q1.k, .int .i64 q1.vm, .int .i64 q1.sp, .bool q1.al, .int .i64 q1.pg, .int .i64 q1.lv, .int .i64 q1.fr, .int .i64 q1.mi, .bool q1.t.r, .bool q1.t.w, .bool q1.t.x, .bool q1.t.a, .bool q1.t.n, .int .i64 q1.t.s] 34)))
              have D12 := Lib.hid ((D11.out.alloc (.cells #[.int .i64 q1.k, .int .i64 q1.vm, .int .i64 q1.sp, .bool q1.al, .int .i64 q1.pg, .int .i64 q1.lv, .int .i64 q1.fr, .int .i64 q1.mi, .bool q1.t.r, .bool q1.t.w, .bool q1.t.x, .bool q1.t.a, .bool q1.t.n, .int .i64 q1.t.s] 34)))
              have V12 := Lib.hid ((V11.out.alloc (.cells #[.int .i64 q1.k, .int .i64 q1.vm, .int .i64 q1.sp, .bool q1.al, .int .i64 q1.pg, .int .i64 q1.lv, .int .i64 q1.fr, .int .i64 q1.mi, .bool q1.t.r, .bool q1.t.w, .bool q1.t.x, .bool q1.t.a, .bool q1.t.n, .int .i64 q1.t.s] 34)))
              have E212 := Lib.hid ((E211.out.alloc (.cells #[.int .i64 q1.k, .int .i64 q1.vm, .int .i64 q1.sp, .bool q1.al, .int .i64 q1.pg, .int .i64 q1.lv, .int .i64 q1.fr, .int .i64 q1.mi, .bool q1.t.r, .bool q1.t.w, .bool q1.t.x, .bool q1.t.a, .bool q1.t.n, .int .i64 q1.t.s] 34)))
              have D212 := Lib.hid ((D211.out.alloc (.cells #[.int .i64 q1.k, .int .i64 q1.vm, .int .i64 q1.sp, .bool q1.al, .int .i64 q1.pg, .int .i64 q1.lv, .int .i64 q1.fr, .int .i64 q1.mi, .bool q1.t.r, .bool q1.t.w, .bool q1.t.x, .bool q1.t.a, .bool q1.t.n, .int .i64 q1.t.s] 34)))
              have B12 := Lib.hid ((bel_alloc B11.out (.cells #[.int .i64 q1.k, .int .i64 q1.vm, .int .i64 q1.sp, .bool q1.al, .int .i64 q1.pg, .int .i64 q1.lv, .int .i64 q1.fr, .int .i64 q1.mi, .bool q1.t.r, .bool q1.t.w, .bool q1.t.x, .bool q1.t.a, .bool q1.t.n, .int .i64 q1.t.s] 34)))
              obtain ⟨g12, hg12⟩ : ∃ g12, g12 = w11.heap.size := ⟨_, rfl⟩
              obtain ⟨W12, hW12⟩ : ∃ W12, W12 = (w11).alloc (.cells #[.int .i64 q1.k, .int .i64 q1.vm, .int .i64 q1.sp, .bool q1.al, .int .i64 q1.pg, .int .i64 q1.lv, .int .i64 q1.fr, .int .i64 q1.mi, .bool q1.t.r, .bool q1.t.w, .bool q1.t.x, .bool q1.t.a, .bool q1.t.n, .int .i64 q1.t.s] 34) := ⟨_, rfl⟩
              have hs12 : g12 + 1 ≤ W12.heap.size := by rw [hW12, hg12]; simp
              rw [← hW12] at P12 T12 X12 Z12 Y12 E12 D12 V12 E212 D212 B12 ⊢
              have hb12 : g6 + 1 ≤ g12 := by omega
              rw [← hg12] at Y12 ⊢
              clear hg12
              clear hW12 P11 T11 X11 Z11 E11 D11 V11 E211 D211 B11 hs11
              have Xc0 := X12.out.get 0 (.int .i64 x.e.k) rfl
              have Xc1 := X12.out.get 1 (.int .i64 x.e.vm) rfl
              have Xc2 := X12.out.get 2 (.int .i64 x.e.sp) rfl
              have Xc3 := X12.out.get 3 (.bool x.e.al) rfl
              have Xc4 := X12.out.get 4 (.int .i64 x.e.pg) rfl
              have Xc5 := X12.out.get 5 (.int .i64 x.e.lv) rfl
              have Xc6 := X12.out.get 6 (.int .i64 x.e.fr) rfl
              have Xc7 := X12.out.get 7 (.int .i64 x.e.mi) rfl
              have Xc8 := X12.out.get 8 (.bool true) rfl
              have Xc9 := X12.out.get 9 (.bool x.e.t.w) rfl
              have Xc10 := X12.out.get 10 (.bool x.e.t.x) rfl
              have Xc11 := X12.out.get 11 (.bool x.e.t.a) rfl
              have Xc12 := X12.out.get 12 (.bool x.e.t.n) rfl
              have Xc13 := X12.out.get 13 (.int .i64 x.e.t.s) rfl
              go_wp2_with fail
              refine (HIN2.out wf wl wc _ (V12.out).rows.2 (V12.out).rows.1 (by omega)).mono ?_
              rintro e w13 ⟨rfl, hb13⟩
              have hz13 := hb13.size
              have P13 := Lib.hid (P12.out.below hb13)
              have T13 := Lib.hid (T12.out.below hb13)
              have X13 := Lib.hid (X12.out.below hb13)
              have Z13 := Lib.hid (Z12.out.below hb13)
              have Y13 := Lib.hid (Y12.out.below hb13)
              have E13 := Lib.hid (E12.out.below hb13)
              have D13 := Lib.hid (D12.out.below hb13)
              have V13 := Lib.hid (V12.out.below hb13)
              have E213 := Lib.hid (E212.out.below hb13)
              have D213 := Lib.hid (D212.out.below hb13)
              have B13 := Lib.hid (bel_trans B12.out hb13)
              skip
              have hs13 : g12 + 1 ≤ w13.heap.size := by omega
              clear Xc0 Xc1 Xc2 Xc3 Xc4 Xc5 Xc6 Xc7 Xc8 Xc9 Xc10 Xc11 Xc12 Xc13
              clear P12 T12 X12 Z12 Y12 E12 D12 V12 E212 D212 B12 hs12 hb13 hz13
              by_cases h3 : 0 ≤ n2
              rotate_left
              · have dn2 : decide (0 ≤ n2) = false := decide_eq_false h3
                go_wp2
                go_roundw
                case rel => exact ⟨k + 1, F2, f5, g5, wf, l5, c5, d5, wl, wc, by omega, rfl, by go_num, P13.out, T13.out, E213.out, D213.out, V13.out, HM2.out, B13.out⟩
                case measure => simp [intOf]; omega
              have dn2 : decide (0 ≤ n2) = true := decide_eq_true h3
              obtain ⟨a1, a2, a3, hrr⟩ := HMD.out (by rw [← HN2.out]; exact h3)
              have nq2 : (q2 != 0) = false := by rw [a1]; rfl
              have npg : (q1.pg != x.e.pg) = false := by rw [a2]; simp
              have nvm : (q1.vm != x.e.vm) = false := by rw [a3]; simp
              clear a1 a2 a3
              go_wp2_with fail
              refine (num9_any _ _).mono ?_
              rintro e w14 ⟨rfl, rfl⟩
              have Yc4 := Y13.out.get 4 (.int .i64 q1.pg) rfl
              have Xc4 := X13.out.get 4 (.int .i64 x.e.pg) rfl
              have Yc1 := Y13.out.get 1 (.int .i64 q1.vm) rfl
              have Xc1 := X13.out.get 1 (.int .i64 x.e.vm) rfl
              have Yc8 := Y13.out.get 8 (.bool q1.t.r) rfl
              go_wp2
              go_roundw
              case rel => exact ⟨k + 1, F2, f5, g5, wf, l5, c5, d5, wl, wc, by omega, rfl, by go_num, P13.out, T13.out, E213.out, D213.out, V13.out, HM2.out, B13.out⟩
              case measure => simp [intOf]; omega
            have dn1 : decide (n1 < 0) = true := decide_eq_true h1
            by_cases h2 : wl < 8
            rotate_left
            · have dl8 : decide ((wl : Int) < 8) = false := decide_eq_false (by omega)
              have HF := Lib.hid (show F = F2 from by rw [HF0.out, if_neg (fun h => h2 (by have := HVN.out; omega))])
              clear h1
              have Zc0 := Z8.out.get 0 (.slice f5 l5 c5) rfl
              have V99 := Lib.hid (show OwnR KE w8 w.heap.size (.slice wf wl wc) F2 from by rw [← HF.out]; exact V8.out)
              clear V8
              have hvl9 : wl ≤ 9 := by omega
              go_wp2_with fail
              refine (eqE_same f5 wf l5 c5 wl wc F2 F2 _ rfl (E28.out).rows.2 HL5.out (V99.out).rows.2 (V99.out).rows.1 (by omega)).mono ?_
              rintro e w9 ⟨rfl, hb9⟩
              have hz9 := hb9.size
              have P9 := Lib.hid (P8.out.below hb9)
              have T9 := Lib.hid (T8.out.below hb9)
              have X9 := Lib.hid (X8.out.below hb9)
              have Z9 := Lib.hid (Z8.out.below hb9)
              have E9 := Lib.hid (E8.out.below hb9)
              have D9 := Lib.hid (D8.out.below hb9)
              have V9 := Lib.hid (V99.out.below hb9)
              have E29 := Lib.hid (E28.out.below hb9)
              have D29 := Lib.hid (D28.out.below hb9)
              have B9 := Lib.hid (bel_trans B8.out hb9)
              skip
              have hs9 : g6 + 1 ≤ w9.heap.size := by omega
              clear Zc0
              clear P8 T8 X8 Z8 E8 D8 V99 E28 D28 B8 hs8 hb9 hz9
              have Zc0 := Z9.out.get 0 (.slice f5 l5 c5) rfl
              have Zc1 := Z9.out.get 1 (.slice g5 0 d5) rfl
              go_upto_region 16 with (refine wpList_storeB rfl 25 _ _ rfl (g3) #[.slice f5 l5 c5, .slice g5 0 d5] _ 25 rfl rfl (by kernel_rfl) (by rfl) (by simp [Value.oneCell']) T9.out ?_)
              clear Zc0 Zc1
              have P10 := Lib.hid ((P9.out.row (cs' := #[.slice f5 l5 c5, .slice g5 0 d5]) (show g1 ≠ g3 by omega)))
              have T10 := Lib.hid ((T9.out.put (cs' := #[.slice f5 l5 c5, .slice g5 0 d5])))
              have X10 := Lib.hid ((X9.out.row (cs' := #[.slice f5 l5 c5, .slice g5 0 d5]) (show g4 ≠ g3 by omega)))
              have Z10 := Lib.hid ((Z9.out.row (cs' := #[.slice f5 l5 c5, .slice g5 0 d5]) (show g6 ≠ g3 by omega)))
              have E10 := Lib.hid ((E9.out.rowN (cs := #[.slice f5 l5 c5, .slice g5 0 d5]) (E9.out.ne_box T9.out (by decide))))
              have D10 := Lib.hid ((D9.out.rowN (cs := #[.slice f5 l5 c5, .slice g5 0 d5]) (D9.out.ne_box T9.out (by decide))))
              have V10 := Lib.hid ((V9.out.rowN (cs := #[.slice f5 l5 c5, .slice g5 0 d5]) (V9.out.ne_box T9.out (by decide))))
              have E210 := Lib.hid ((E29.out.rowN (cs := #[.slice f5 l5 c5, .slice g5 0 d5]) (E29.out.ne_box T9.out (by decide))))
              have D210 := Lib.hid ((D29.out.rowN (cs := #[.slice f5 l5 c5, .slice g5 0 d5]) (D29.out.ne_box T9.out (by decide))))
              have B10 := Lib.hid ((Below.rowB (g := g3) B9.out (cs := #[.slice f5 l5 c5, .slice g5 0 d5]) (show w.heap.size ≤ g3 by omega)))
              obtain ⟨W10, hW10⟩ : ∃ W10, W10 = (w9).setRow (g3) #[.slice f5 l5 c5, .slice g5 0 d5] := ⟨_, rfl⟩
              have hs10 : g6 + 1 ≤ W10.heap.size := by rw [hW10]; first | exact hs9 | omega | (simp; omega)
              rw [← hW10] at P10 T10 X10 Z10 E10 D10 V10 E210 D210 B10 ⊢
              clear hW10 P9 T9 X9 Z9 E9 D9 V9 E29 D29 B9 hs9
              have Xc0 := X10.out.get 0 (.int .i64 x.e.k) rfl
              cases hk2 : decide (x.e.k = 2)
              · have ek2 : (x.e.k == 2) = false := (beq_int _ _).trans hk2
                clear hk2
                go_wp2
                go_roundw
                case rel => exact ⟨k + 1, F2, f5, g5, wf, l5, c5, d5, wl, wc, by omega, rfl, by go_num, P10.out, T10.out, E210.out, D210.out, V10.out, HM2.out, B10.out⟩
                case measure => simp [intOf]; omega
              have ek2 : (x.e.k == 2) = true := (beq_int _ _).trans hk2
              have Xc8 := X10.out.get 8 (.bool x.e.t.r) rfl
              cases hr : x.e.t.r
              · rw [hr] at X10
                go_wp2
                go_roundw
                case rel => exact ⟨k + 1, F2, f5, g5, wf, l5, c5, d5, wl, wc, by omega, rfl, by go_num, P10.out, T10.out, E210.out, D210.out, V10.out, HM2.out, B10.out⟩
                case measure => simp [intOf]; omega
              rw [hr] at X10
              obtain ⟨q1, q2, hq⟩ : ∃ q1 q2, (q1, q2) = firstR F2 [] 2 x.e.vm 0 x.e.pg 0 := ⟨_, _, rfl⟩
              have HMD := Lib.hid (show 0 ≤ inE F2 x.e → q2 = 0 ∧ q1.pg = x.e.pg ∧ q1.vm = x.e.vm ∧ q1.t.r = true from fun h => by have h9 := mid_found HM2.out HME.out (of_decide_eq_true hk2) hr h; rw [← hq] at h9; exact h9)
              have hmi := fun W hE hD => midO w.heap.size f5 g5 l5 c5 0 d5 F2 [] x.e.vm x.e.pg 0 W hE hD (by omega) (by omega)
              rw [← hq] at hmi
              simp only [entV, entC] at hmi
              have HMI := Lib.hid hmi
              clear hmi hq
              have Tc0 := T10.out.get 0 (.slice f5 l5 c5) rfl
              have Tc1 := T10.out.get 1 (.slice g5 0 d5) rfl
              have Xc1 := X10.out.get 1 (.int .i64 x.e.vm) rfl
              have Xc4 := X10.out.get 4 (.int .i64 x.e.pg) rfl
              go_wp2_with fail
              refine (HMI.out _ (E210.out) (D210.out)).mono ?_
              rintro e w11 ⟨rfl, hb11⟩
              have hz11 := hb11.size
              have P11 := Lib.hid (P10.out.below hb11)
              have T11 := Lib.hid (T10.out.below hb11)
              have X11 := Lib.hid (X10.out.below hb11)
              have Z11 := Lib.hid (Z10.out.below hb11)
              have E11 := Lib.hid (E10.out.below hb11)
              have D11 := Lib.hid (D10.out.below hb11)
              have V11 := Lib.hid (V10.out.below hb11)
              have E211 := Lib.hid (E210.out.below hb11)
              have D211 := Lib.hid (D210.out.below hb11)
              have B11 := Lib.hid (bel_trans B10.out hb11)
              skip
              have hs11 : g6 + 1 ≤ w11.heap.size := by omega
              clear Xc0 Xc8 Tc0 Tc1 Xc1 Xc4
              clear P10 T10 X10 Z10 E10 D10 V10 E210 D210 B10 hs10 hb11 hz11
              obtain ⟨n2, hn2⟩ : ∃ n2, n2 = inE F2 x.e := ⟨_, rfl⟩
              have hin2 := fun (f9 : Option Addr) (l9 c9 : Nat) W h1 h2 h3 => in9_any f9 l9 c9 F2 x.e W h1 h2 h3
              rw [← hn2] at hin2
              simp only [entV, entC] at hin2
              rw [hr] at hin2
              have HIN2 := Lib.hid hin2
              have HN2 := Lib.hid hn2
              clear hin2 hn2
              go_upto_region 18 with fail
              have P12 := Lib.hid ((P11.out.alloc (.cells #[.int .i64 q1.k, .int .i64 q1.vm, .int .i64 q1.sp, .bool q1.al, .int .i64 q1.pg, .int .i64 q1.lv, .int .i64 q1.fr, .int .i64 q1.mi, .bool q1.t.r, .bool q1.t.w, .bool q1.t.x, .bool q1.t.a, .bool q1.t.n, .int .i64 q1.t.s] 34)))
              have T12 := Lib.hid ((T11.out.alloc (.cells #[.int .i64 q1.k, .int .i64 q1.vm, .int .i64 q1.sp, .bool q1.al, .int .i64 q1.pg, .int .i64 q1.lv, .int .i64 q1.fr, .int .i64 q1.mi, .bool q1.t.r, .bool q1.t.w, .bool q1.t.x, .bool q1.t.a, .bool q1.t.n, .int .i64 q1.t.s] 34)))
              have X12 := Lib.hid ((X11.out.alloc (.cells #[.int .i64 q1.k, .int .i64 q1.vm, .int .i64 q1.sp, .bool q1.al, .int .i64 q1.pg, .int .i64 q1.lv, .int .i64 q1.fr, .int .i64 q1.mi, .bool q1.t.r, .bool q1.t.w, .bool q1.t.x, .bool q1.t.a, .bool q1.t.n, .int .i64 q1.t.s] 34)))
              have Z12 := Lib.hid ((Z11.out.alloc (.cells #[.int .i64 q1.k, .int .i64 q1.vm, .int .i64 q1.sp, .bool q1.al, .int .i64 q1.pg, .int .i64 q1.lv, .int .i64 q1.fr, .int .i64 q1.mi, .bool q1.t.r, .bool q1.t.w, .bool q1.t.x, .bool q1.t.a, .bool q1.t.n, .int .i64 q1.t.s] 34)))
              have Y12 := Lib.hid ((BoxAt.newAt (w11) #[.int .i64 q1.k, .int .i64 q1.vm, .int .i64 q1.sp, .bool q1.al, .int .i64 q1.pg, .int .i64 q1.lv, .int .i64 q1.fr, .int .i64 q1.mi, .bool q1.t.r, .bool q1.t.w, .bool q1.t.x, .bool q1.t.a, .bool q1.t.n, .int .i64 q1.t.s] 34 (w11.heap.size) (by first | omega | (simp; done) | (simp; omega))))
              have E12 := Lib.hid ((E11.out.alloc (.cells #[.int .i64 q1.k, .int .i64 q1.vm, .int .i64 q1.sp, .bool q1.al, .int .i64 q1.pg, .int .i64 q1.lv, .int .i64 q1.fr, .int .i64 q1.mi, .bool q1.t.r, .bool q1.t.w, .bool q1.t.x, .bool q1.t.a, .bool q1.t.n, .int .i64 q1.t.s] 34)))
              have D12 := Lib.hid ((D11.out.alloc (.cells #[.int .i64 q1.k, .int .i64 q1.vm, .int .i64 q1.sp, .bool q1.al, .int .i64 q1.pg, .int .i64 q1.lv, .int .i64 q1.fr, .int .i64 q1.mi, .bool q1.t.r, .bool q1.t.w, .bool q1.t.x, .bool q1.t.a, .bool q1.t.n, .int .i64 q1.t.s] 34)))
              have V12 := Lib.hid ((V11.out.alloc (.cells #[.int .i64 q1.k, .int .i64 q1.vm, .int .i64 q1.sp, .bool q1.al, .int .i64 q1.pg, .int .i64 q1.lv, .int .i64 q1.fr, .int .i64 q1.mi, .bool q1.t.r, .bool q1.t.w, .bool q1.t.x, .bool q1.t.a, .bool q1.t.n, .int .i64 q1.t.s] 34)))
              have E212 := Lib.hid ((E211.out.alloc (.cells #[.int .i64 q1.k, .int .i64 q1.vm, .int .i64 q1.sp, .bool q1.al, .int .i64 q1.pg, .int .i64 q1.lv, .int .i64 q1.fr, .int .i64 q1.mi, .bool q1.t.r, .bool q1.t.w, .bool q1.t.x, .bool q1.t.a, .bool q1.t.n, .int .i64 q1.t.s] 34)))
              have D212 := Lib.hid ((D211.out.alloc (.cells #[.int .i64 q1.k, .int .i64 q1.vm, .int .i64 q1.sp, .bool q1.al, .int .i64 q1.pg, .int .i64 q1.lv, .int .i64 q1.fr, .int .i64 q1.mi, .bool q1.t.r, .bool q1.t.w, .bool q1.t.x, .bool q1.t.a, .bool q1.t.n, .int .i64 q1.t.s] 34)))
              have B12 := Lib.hid ((bel_alloc B11.out (.cells #[.int .i64 q1.k, .int .i64 q1.vm, .int .i64 q1.sp, .bool q1.al, .int .i64 q1.pg, .int .i64 q1.lv, .int .i64 q1.fr, .int .i64 q1.mi, .bool q1.t.r, .bool q1.t.w, .bool q1.t.x, .bool q1.t.a, .bool q1.t.n, .int .i64 q1.t.s] 34)))
              obtain ⟨g12, hg12⟩ : ∃ g12, g12 = w11.heap.size := ⟨_, rfl⟩
              obtain ⟨W12, hW12⟩ : ∃ W12, W12 = (w11).alloc (.cells #[.int .i64 q1.k, .int .i64 q1.vm, .int .i64 q1.sp, .bool q1.al, .int .i64 q1.pg, .int .i64 q1.lv, .int .i64 q1.fr, .int .i64 q1.mi, .bool q1.t.r, .bool q1.t.w, .bool q1.t.x, .bool q1.t.a, .bool q1.t.n, .int .i64 q1.t.s] 34) := ⟨_, rfl⟩
              have hs12 : g12 + 1 ≤ W12.heap.size := by rw [hW12, hg12]; simp
              rw [← hW12] at P12 T12 X12 Z12 Y12 E12 D12 V12 E212 D212 B12 ⊢
              have hb12 : g6 + 1 ≤ g12 := by omega
              rw [← hg12] at Y12 ⊢
              clear hg12
              clear hW12 P11 T11 X11 Z11 E11 D11 V11 E211 D211 B11 hs11
              have Xc0 := X12.out.get 0 (.int .i64 x.e.k) rfl
              have Xc1 := X12.out.get 1 (.int .i64 x.e.vm) rfl
              have Xc2 := X12.out.get 2 (.int .i64 x.e.sp) rfl
              have Xc3 := X12.out.get 3 (.bool x.e.al) rfl
              have Xc4 := X12.out.get 4 (.int .i64 x.e.pg) rfl
              have Xc5 := X12.out.get 5 (.int .i64 x.e.lv) rfl
              have Xc6 := X12.out.get 6 (.int .i64 x.e.fr) rfl
              have Xc7 := X12.out.get 7 (.int .i64 x.e.mi) rfl
              have Xc8 := X12.out.get 8 (.bool true) rfl
              have Xc9 := X12.out.get 9 (.bool x.e.t.w) rfl
              have Xc10 := X12.out.get 10 (.bool x.e.t.x) rfl
              have Xc11 := X12.out.get 11 (.bool x.e.t.a) rfl
              have Xc12 := X12.out.get 12 (.bool x.e.t.n) rfl
              have Xc13 := X12.out.get 13 (.int .i64 x.e.t.s) rfl
              go_wp2_with fail
              refine (HIN2.out wf wl wc _ (V12.out).rows.2 (V12.out).rows.1 (by omega)).mono ?_
              rintro e w13 ⟨rfl, hb13⟩
              have hz13 := hb13.size
              have P13 := Lib.hid (P12.out.below hb13)
              have T13 := Lib.hid (T12.out.below hb13)
              have X13 := Lib.hid (X12.out.below hb13)
              have Z13 := Lib.hid (Z12.out.below hb13)
              have Y13 := Lib.hid (Y12.out.below hb13)
              have E13 := Lib.hid (E12.out.below hb13)
              have D13 := Lib.hid (D12.out.below hb13)
              have V13 := Lib.hid (V12.out.below hb13)
              have E213 := Lib.hid (E212.out.below hb13)
              have D213 := Lib.hid (D212.out.below hb13)
              have B13 := Lib.hid (bel_trans B12.out hb13)
              skip
              have hs13 : g12 + 1 ≤ w13.heap.size := by omega
              clear Xc0 Xc1 Xc2 Xc3 Xc4 Xc5 Xc6 Xc7 Xc8 Xc9 Xc10 Xc11 Xc12 Xc13
              clear P12 T12 X12 Z12 Y12 E12 D12 V12 E212 D212 B12 hs12 hb13 hz13
              by_cases h3 : 0 ≤ n2
              rotate_left
              · have dn2 : decide (0 ≤ n2) = false := decide_eq_false h3
                go_wp2
                go_roundw
                case rel => exact ⟨k + 1, F2, f5, g5, wf, l5, c5, d5, wl, wc, by omega, rfl, by go_num, P13.out, T13.out, E213.out, D213.out, V13.out, HM2.out, B13.out⟩
                case measure => simp [intOf]; omega
              have dn2 : decide (0 ≤ n2) = true := decide_eq_true h3
              obtain ⟨a1, a2, a3, hrr⟩ := HMD.out (by rw [← HN2.out]; exact h3)
              have nq2 : (q2 != 0) = false := by rw [a1]; rfl
              have npg : (q1.pg != x.e.pg) = false := by rw [a2]; simp
              have nvm : (q1.vm != x.e.vm) = false := by rw [a3]; simp
              clear a1 a2 a3
              go_wp2_with fail
              refine (num9_any _ _).mono ?_
              rintro e w14 ⟨rfl, rfl⟩
              have Yc4 := Y13.out.get 4 (.int .i64 q1.pg) rfl
              have Xc4 := X13.out.get 4 (.int .i64 x.e.pg) rfl
              have Yc1 := Y13.out.get 1 (.int .i64 q1.vm) rfl
              have Xc1 := X13.out.get 1 (.int .i64 x.e.vm) rfl
              have Yc8 := Y13.out.get 8 (.bool q1.t.r) rfl
              go_wp2
              go_roundw
              case rel => exact ⟨k + 1, F2, f5, g5, wf, l5, c5, d5, wl, wc, by omega, rfl, by go_num, P13.out, T13.out, E213.out, D213.out, V13.out, HM2.out, B13.out⟩
              case measure => simp [intOf]; omega
            have dl8 : decide ((wl : Int) < 8) = true := decide_eq_true (by omega)
            have HF := Lib.hid (show F ++ [x.e] = F2 from by rw [HF0.out, if_pos ⟨h1, by have := HVN.out; omega⟩])
            clear h1
            have Xc0 := X8.out.get 0 (.int .i64 x.e.k) rfl
            have Xc1 := X8.out.get 1 (.int .i64 x.e.vm) rfl
            have Xc2 := X8.out.get 2 (.int .i64 x.e.sp) rfl
            have Xc3 := X8.out.get 3 (.bool x.e.al) rfl
            have Xc4 := X8.out.get 4 (.int .i64 x.e.pg) rfl
            have Xc5 := X8.out.get 5 (.int .i64 x.e.lv) rfl
            have Xc6 := X8.out.get 6 (.int .i64 x.e.fr) rfl
            have Xc7 := X8.out.get 7 (.int .i64 x.e.mi) rfl
            have Xc8 := X8.out.get 8 (.bool x.e.t.r) rfl
            have Xc9 := X8.out.get 9 (.bool x.e.t.w) rfl
            have Xc10 := X8.out.get 10 (.bool x.e.t.x) rfl
            have Xc11 := X8.out.get 11 (.bool x.e.t.a) rfl
            have Xc12 := X8.out.get 12 (.bool x.e.t.n) rfl
            have Xc13 := X8.out.get 13 (.int .i64 x.e.t.s) rfl
            go_upto_region 13 with (at_builtin; refine wpList_pushRl (K := KE) rfl _ _ rfl w.heap.size wl _ F rfl (V8.out.alloc (.cells #[.int .i64 x.e.k, .int .i64 x.e.vm, .int .i64 x.e.sp, .bool x.e.al, .int .i64 x.e.pg, .int .i64 x.e.lv, .int .i64 x.e.fr, .int .i64 x.e.mi, .bool x.e.t.r, .bool x.e.t.w, .bool x.e.t.x, .bool x.e.t.a, .bool x.e.t.n, .int .i64 x.e.t.s] 34)) HVN.out (w8.heap.size) 1 x.e rfl (fun i _ => ((BoxAt.newAt (w8) #[.int .i64 x.e.k, .int .i64 x.e.vm, .int .i64 x.e.sp, .bool x.e.al, .int .i64 x.e.pg, .int .i64 x.e.lv, .int .i64 x.e.fr, .int .i64 x.e.mi, .bool x.e.t.r, .bool x.e.t.w, .bool x.e.t.x, .bool x.e.t.a, .bool x.e.t.n, .int .i64 x.e.t.s] 34 (w8.heap.size) (by first | omega | (simp; done) | (simp; omega)))).cell i) (by omega) (by first | omega | (simp; omega)) ?_; intro f9a c9a w9 hO9 hg9; clear Xc0 Xc1 Xc2 Xc3 Xc4 Xc5 Xc6 Xc7 Xc8 Xc9 Xc10 Xc11 Xc12 Xc13; have hz9 := hg9.size; try simp at hz9; have P9 := Lib.hid ((P8.out.alloc (.cells #[.int .i64 x.e.k, .int .i64 x.e.vm, .int .i64 x.e.sp, .bool x.e.al, .int .i64 x.e.pg, .int .i64 x.e.lv, .int .i64 x.e.fr, .int .i64 x.e.mi, .bool x.e.t.r, .bool x.e.t.w, .bool x.e.t.x, .bool x.e.t.a, .bool x.e.t.n, .int .i64 x.e.t.s] 34)).grown hg9 ((V8.out.alloc (.cells #[.int .i64 x.e.k, .int .i64 x.e.vm, .int .i64 x.e.sp, .bool x.e.al, .int .i64 x.e.pg, .int .i64 x.e.lv, .int .i64 x.e.fr, .int .i64 x.e.mi, .bool x.e.t.r, .bool x.e.t.w, .bool x.e.t.x, .bool x.e.t.a, .bool x.e.t.n, .int .i64 x.e.t.s] 34)).ne_box (P8.out.alloc (.cells #[.int .i64 x.e.k, .int .i64 x.e.vm, .int .i64 x.e.sp, .bool x.e.al, .int .i64 x.e.pg, .int .i64 x.e.lv, .int .i64 x.e.fr, .int .i64 x.e.mi, .bool x.e.t.r, .bool x.e.t.w, .bool x.e.t.x, .bool x.e.t.a, .bool x.e.t.n, .int .i64 x.e.t.s] 34)) (by decide))); have T9 := Lib.hid ((T8.out.alloc (.cells #[.int .i64 x.e.k, .int .i64 x.e.vm, .int .i64 x.e.sp, .bool x.e.al, .int .i64 x.e.pg, .int .i64 x.e.lv, .int .i64 x.e.fr, .int .i64 x.e.mi, .bool x.e.t.r, .bool x.e.t.w, .bool x.e.t.x, .bool x.e.t.a, .bool x.e.t.n, .int .i64 x.e.t.s] 34)).grown hg9 ((V8.out.alloc (.cells #[.int .i64 x.e.k, .int .i64 x.e.vm, .int .i64 x.e.sp, .bool x.e.al, .int .i64 x.e.pg, .int .i64 x.e.lv, .int .i64 x.e.fr, .int .i64 x.e.mi, .bool x.e.t.r, .bool x.e.t.w, .bool x.e.t.x, .bool x.e.t.a, .bool x.e.t.n, .int .i64 x.e.t.s] 34)).ne_box (T8.out.alloc (.cells #[.int .i64 x.e.k, .int .i64 x.e.vm, .int .i64 x.e.sp, .bool x.e.al, .int .i64 x.e.pg, .int .i64 x.e.lv, .int .i64 x.e.fr, .int .i64 x.e.mi, .bool x.e.t.r, .bool x.e.t.w, .bool x.e.t.x, .bool x.e.t.a, .bool x.e.t.n, .int .i64 x.e.t.s] 34)) (by decide))); have X9 := Lib.hid ((X8.out.alloc (.cells #[.int .i64 x.e.k, .int .i64 x.e.vm, .int .i64 x.e.sp, .bool x.e.al, .int .i64 x.e.pg, .int .i64 x.e.lv, .int .i64 x.e.fr, .int .i64 x.e.mi, .bool x.e.t.r, .bool x.e.t.w, .bool x.e.t.x, .bool x.e.t.a, .bool x.e.t.n, .int .i64 x.e.t.s] 34)).grown hg9 (fun he => absurd (HVB.out _ he) (by omega))); have Z9 := Lib.hid ((Z8.out.alloc (.cells #[.int .i64 x.e.k, .int .i64 x.e.vm, .int .i64 x.e.sp, .bool x.e.al, .int .i64 x.e.pg, .int .i64 x.e.lv, .int .i64 x.e.fr, .int .i64 x.e.mi, .bool x.e.t.r, .bool x.e.t.w, .bool x.e.t.x, .bool x.e.t.a, .bool x.e.t.n, .int .i64 x.e.t.s] 34)).grown hg9 ((V8.out.alloc (.cells #[.int .i64 x.e.k, .int .i64 x.e.vm, .int .i64 x.e.sp, .bool x.e.al, .int .i64 x.e.pg, .int .i64 x.e.lv, .int .i64 x.e.fr, .int .i64 x.e.mi, .bool x.e.t.r, .bool x.e.t.w, .bool x.e.t.x, .bool x.e.t.a, .bool x.e.t.n, .int .i64 x.e.t.s] 34)).ne_box (Z8.out.alloc (.cells #[.int .i64 x.e.k, .int .i64 x.e.vm, .int .i64 x.e.sp, .bool x.e.al, .int .i64 x.e.pg, .int .i64 x.e.lv, .int .i64 x.e.fr, .int .i64 x.e.mi, .bool x.e.t.r, .bool x.e.t.w, .bool x.e.t.x, .bool x.e.t.a, .bool x.e.t.n, .int .i64 x.e.t.s] 34)) (by decide))); have D9o := Lib.hid ((D8.out.alloc (.cells #[.int .i64 x.e.k, .int .i64 x.e.vm, .int .i64 x.e.sp, .bool x.e.al, .int .i64 x.e.pg, .int .i64 x.e.lv, .int .i64 x.e.fr, .int .i64 x.e.mi, .bool x.e.t.r, .bool x.e.t.w, .bool x.e.t.x, .bool x.e.t.a, .bool x.e.t.n, .int .i64 x.e.t.s] 34)).grownO (V8.out.alloc (.cells #[.int .i64 x.e.k, .int .i64 x.e.vm, .int .i64 x.e.sp, .bool x.e.al, .int .i64 x.e.pg, .int .i64 x.e.lv, .int .i64 x.e.fr, .int .i64 x.e.mi, .bool x.e.t.r, .bool x.e.t.w, .bool x.e.t.x, .bool x.e.t.a, .bool x.e.t.n, .int .i64 x.e.t.s] 34)) (by decide) hg9); have V9 := Lib.hid (hO9); have E29o := Lib.hid (OwnR.keptN (E28.out.alloc (.cells #[.int .i64 x.e.k, .int .i64 x.e.vm, .int .i64 x.e.sp, .bool x.e.al, .int .i64 x.e.pg, .int .i64 x.e.lv, .int .i64 x.e.fr, .int .i64 x.e.mi, .bool x.e.t.r, .bool x.e.t.w, .bool x.e.t.x, .bool x.e.t.a, .bool x.e.t.n, .int .i64 x.e.t.s] 34)) hg9 HNE5.out); have D29o := Lib.hid ((D28.out.alloc (.cells #[.int .i64 x.e.k, .int .i64 x.e.vm, .int .i64 x.e.sp, .bool x.e.al, .int .i64 x.e.pg, .int .i64 x.e.lv, .int .i64 x.e.fr, .int .i64 x.e.mi, .bool x.e.t.r, .bool x.e.t.w, .bool x.e.t.x, .bool x.e.t.a, .bool x.e.t.n, .int .i64 x.e.t.s] 34)).grownO (V8.out.alloc (.cells #[.int .i64 x.e.k, .int .i64 x.e.vm, .int .i64 x.e.sp, .bool x.e.al, .int .i64 x.e.pg, .int .i64 x.e.lv, .int .i64 x.e.fr, .int .i64 x.e.mi, .bool x.e.t.r, .bool x.e.t.w, .bool x.e.t.x, .bool x.e.t.a, .bool x.e.t.n, .int .i64 x.e.t.s] 34)) (by decide) hg9); have B9 := Lib.hid ((bel_alloc B8.out (.cells #[.int .i64 x.e.k, .int .i64 x.e.vm, .int .i64 x.e.sp, .bool x.e.al, .int .i64 x.e.pg, .int .i64 x.e.lv, .int .i64 x.e.fr, .int .i64 x.e.mi, .bool x.e.t.r, .bool x.e.t.w, .bool x.e.t.x, .bool x.e.t.a, .bool x.e.t.n, .int .i64 x.e.t.s] 34)).grown hg9 (show w.heap.size ≤ _ by first | omega | (simp; omega)) (fun k hk => Nat.le_trans (show w.heap.size ≤ w.heap.size by omega) ((V8.out.alloc (.cells #[.int .i64 x.e.k, .int .i64 x.e.vm, .int .i64 x.e.sp, .bool x.e.al, .int .i64 x.e.pg, .int .i64 x.e.lv, .int .i64 x.e.fr, .int .i64 x.e.mi, .bool x.e.t.r, .bool x.e.t.w, .bool x.e.t.x, .bool x.e.t.a, .bool x.e.t.n, .int .i64 x.e.t.s] 34)).blk k hk))); have hs9 : g6 + 1 ≤ w9.heap.size := (by omega); clear P8 T8 X8 Z8 E8 D8 V8 E28 D28 B8 hg9 hO9 hz9 hs8)
            have Zc0 := Z9.out.get 0 (.slice f5 l5 c5) rfl
            have V99 := Lib.hid (show OwnR KE w9 w.heap.size (.slice f9a (wl + 1) c9a) F2 from by rw [← HF.out]; exact V9.out)
            clear V9
            have hvl9 : wl + 1 ≤ 9 := by omega
            go_wp2_with fail
            refine (eqE_same f5 f9a l5 c5 (wl + 1) c9a F2 F2 _ rfl (E29o.out).rows.2 HL5.out (V99.out).rows.2 (V99.out).rows.1 (by omega)).mono ?_
            rintro e w10 ⟨rfl, hb10⟩
            have hz10 := hb10.size
            have P10 := Lib.hid (P9.out.below hb10)
            have T10 := Lib.hid (T9.out.below hb10)
            have X10 := Lib.hid (X9.out.below hb10)
            have Z10 := Lib.hid (Z9.out.below hb10)
            have D10 := Lib.hid (D9o.out.below hb10)
            have V10 := Lib.hid (V99.out.below hb10)
            have E210 := Lib.hid (E29o.out.below hb10)
            have D210 := Lib.hid (D29o.out.below hb10)
            have B10 := Lib.hid (bel_trans B9.out hb10)
            skip
            have hs10 : g6 + 1 ≤ w10.heap.size := by omega
            clear Zc0
            clear P9 T9 X9 Z9 D9o V99 E29o D29o B9 hs9 hb10 hz10
            have Zc0 := Z10.out.get 0 (.slice f5 l5 c5) rfl
            have Zc1 := Z10.out.get 1 (.slice g5 0 d5) rfl
            go_upto_region 16 with (refine wpList_storeB rfl 25 _ _ rfl (g3) #[.slice f5 l5 c5, .slice g5 0 d5] _ 25 rfl rfl (by kernel_rfl) (by rfl) (by simp [Value.oneCell']) T10.out ?_)
            clear Zc0 Zc1
            have P11 := Lib.hid ((P10.out.row (cs' := #[.slice f5 l5 c5, .slice g5 0 d5]) (show g1 ≠ g3 by omega)))
            have T11 := Lib.hid ((T10.out.put (cs' := #[.slice f5 l5 c5, .slice g5 0 d5])))
            have X11 := Lib.hid ((X10.out.row (cs' := #[.slice f5 l5 c5, .slice g5 0 d5]) (show g4 ≠ g3 by omega)))
            have Z11 := Lib.hid ((Z10.out.row (cs' := #[.slice f5 l5 c5, .slice g5 0 d5]) (show g6 ≠ g3 by omega)))
            have D11 := Lib.hid ((D10.out.rowN (cs := #[.slice f5 l5 c5, .slice g5 0 d5]) (D10.out.ne_box T10.out (by decide))))
            have V11 := Lib.hid ((V10.out.rowN (cs := #[.slice f5 l5 c5, .slice g5 0 d5]) (V10.out.ne_box T10.out (by decide))))
            have E211 := Lib.hid ((E210.out.rowN (cs := #[.slice f5 l5 c5, .slice g5 0 d5]) (E210.out.ne_box T10.out (by decide))))
            have D211 := Lib.hid ((D210.out.rowN (cs := #[.slice f5 l5 c5, .slice g5 0 d5]) (D210.out.ne_box T10.out (by decide))))
            have B11 := Lib.hid ((Below.rowB (g := g3) B10.out (cs := #[.slice f5 l5 c5, .slice g5 0 d5]) (show w.heap.size ≤ g3 by omega)))
            obtain ⟨W11, hW11⟩ : ∃ W11, W11 = (w10).setRow (g3) #[.slice f5 l5 c5, .slice g5 0 d5] := ⟨_, rfl⟩
            have hs11 : g6 + 1 ≤ W11.heap.size := by rw [hW11]; first | exact hs10 | omega | (simp; omega)
            rw [← hW11] at P11 T11 X11 Z11 D11 V11 E211 D211 B11 ⊢
            clear hW11 P10 T10 X10 Z10 D10 V10 E210 D210 B10 hs10
            have Xc0 := X11.out.get 0 (.int .i64 x.e.k) rfl
            cases hk2 : decide (x.e.k = 2)
            · have ek2 : (x.e.k == 2) = false := (beq_int _ _).trans hk2
              clear hk2
              go_wp2
              go_roundw
              case rel => exact ⟨k + 1, F2, f5, g5, f9a, l5, c5, d5, (wl + 1), c9a, by omega, rfl, by go_num, P11.out, T11.out, E211.out, D211.out, V11.out, HM2.out, B11.out⟩
              case measure => simp [intOf]; omega
            have ek2 : (x.e.k == 2) = true := (beq_int _ _).trans hk2
            have Xc8 := X11.out.get 8 (.bool x.e.t.r) rfl
            cases hr : x.e.t.r
            · rw [hr] at X11
              go_wp2
              go_roundw
              case rel => exact ⟨k + 1, F2, f5, g5, f9a, l5, c5, d5, (wl + 1), c9a, by omega, rfl, by go_num, P11.out, T11.out, E211.out, D211.out, V11.out, HM2.out, B11.out⟩
              case measure => simp [intOf]; omega
            rw [hr] at X11
            obtain ⟨q1, q2, hq⟩ : ∃ q1 q2, (q1, q2) = firstR F2 [] 2 x.e.vm 0 x.e.pg 0 := ⟨_, _, rfl⟩
            have HMD := Lib.hid (show 0 ≤ inE F2 x.e → q2 = 0 ∧ q1.pg = x.e.pg ∧ q1.vm = x.e.vm ∧ q1.t.r = true from fun h => by have h9 := mid_found HM2.out HME.out (of_decide_eq_true hk2) hr h; rw [← hq] at h9; exact h9)
            have hmi := fun W hE hD => midO w.heap.size f5 g5 l5 c5 0 d5 F2 [] x.e.vm x.e.pg 0 W hE hD (by omega) (by omega)
            rw [← hq] at hmi
            simp only [entV, entC] at hmi
            have HMI := Lib.hid hmi
            clear hmi hq
            have Tc0 := T11.out.get 0 (.slice f5 l5 c5) rfl
            have Tc1 := T11.out.get 1 (.slice g5 0 d5) rfl
            have Xc1 := X11.out.get 1 (.int .i64 x.e.vm) rfl
            have Xc4 := X11.out.get 4 (.int .i64 x.e.pg) rfl
            go_wp2_with fail
            refine (HMI.out _ (E211.out) (D211.out)).mono ?_
            rintro e w12 ⟨rfl, hb12⟩
            have hz12 := hb12.size
            have P12 := Lib.hid (P11.out.below hb12)
            have T12 := Lib.hid (T11.out.below hb12)
            have X12 := Lib.hid (X11.out.below hb12)
            have Z12 := Lib.hid (Z11.out.below hb12)
            have D12 := Lib.hid (D11.out.below hb12)
            have V12 := Lib.hid (V11.out.below hb12)
            have E212 := Lib.hid (E211.out.below hb12)
            have D212 := Lib.hid (D211.out.below hb12)
            have B12 := Lib.hid (bel_trans B11.out hb12)
            skip
            have hs12 : g6 + 1 ≤ w12.heap.size := by omega
            clear Xc0 Xc8 Tc0 Tc1 Xc1 Xc4
            clear P11 T11 X11 Z11 D11 V11 E211 D211 B11 hs11 hb12 hz12
            obtain ⟨n2, hn2⟩ : ∃ n2, n2 = inE F2 x.e := ⟨_, rfl⟩
            have hin2 := fun (f9 : Option Addr) (l9 c9 : Nat) W h1 h2 h3 => in9_any f9 l9 c9 F2 x.e W h1 h2 h3
            rw [← hn2] at hin2
            simp only [entV, entC] at hin2
            rw [hr] at hin2
            have HIN2 := Lib.hid hin2
            have HN2 := Lib.hid hn2
            clear hin2 hn2
            go_upto_region 18 with fail
            have P13 := Lib.hid ((P12.out.alloc (.cells #[.int .i64 q1.k, .int .i64 q1.vm, .int .i64 q1.sp, .bool q1.al, .int .i64 q1.pg, .int .i64 q1.lv, .int .i64 q1.fr, .int .i64 q1.mi, .bool q1.t.r, .bool q1.t.w, .bool q1.t.x, .bool q1.t.a, .bool q1.t.n, .int .i64 q1.t.s] 34)))
            have T13 := Lib.hid ((T12.out.alloc (.cells #[.int .i64 q1.k, .int .i64 q1.vm, .int .i64 q1.sp, .bool q1.al, .int .i64 q1.pg, .int .i64 q1.lv, .int .i64 q1.fr, .int .i64 q1.mi, .bool q1.t.r, .bool q1.t.w, .bool q1.t.x, .bool q1.t.a, .bool q1.t.n, .int .i64 q1.t.s] 34)))
            have X13 := Lib.hid ((X12.out.alloc (.cells #[.int .i64 q1.k, .int .i64 q1.vm, .int .i64 q1.sp, .bool q1.al, .int .i64 q1.pg, .int .i64 q1.lv, .int .i64 q1.fr, .int .i64 q1.mi, .bool q1.t.r, .bool q1.t.w, .bool q1.t.x, .bool q1.t.a, .bool q1.t.n, .int .i64 q1.t.s] 34)))
            have Z13 := Lib.hid ((Z12.out.alloc (.cells #[.int .i64 q1.k, .int .i64 q1.vm, .int .i64 q1.sp, .bool q1.al, .int .i64 q1.pg, .int .i64 q1.lv, .int .i64 q1.fr, .int .i64 q1.mi, .bool q1.t.r, .bool q1.t.w, .bool q1.t.x, .bool q1.t.a, .bool q1.t.n, .int .i64 q1.t.s] 34)))
            have Y13 := Lib.hid ((BoxAt.newAt (w12) #[.int .i64 q1.k, .int .i64 q1.vm, .int .i64 q1.sp, .bool q1.al, .int .i64 q1.pg, .int .i64 q1.lv, .int .i64 q1.fr, .int .i64 q1.mi, .bool q1.t.r, .bool q1.t.w, .bool q1.t.x, .bool q1.t.a, .bool q1.t.n, .int .i64 q1.t.s] 34 (w12.heap.size) (by first | omega | (simp; done) | (simp; omega))))
            have D13 := Lib.hid ((D12.out.alloc (.cells #[.int .i64 q1.k, .int .i64 q1.vm, .int .i64 q1.sp, .bool q1.al, .int .i64 q1.pg, .int .i64 q1.lv, .int .i64 q1.fr, .int .i64 q1.mi, .bool q1.t.r, .bool q1.t.w, .bool q1.t.x, .bool q1.t.a, .bool q1.t.n, .int .i64 q1.t.s] 34)))
            have V13 := Lib.hid ((V12.out.alloc (.cells #[.int .i64 q1.k, .int .i64 q1.vm, .int .i64 q1.sp, .bool q1.al, .int .i64 q1.pg, .int .i64 q1.lv, .int .i64 q1.fr, .int .i64 q1.mi, .bool q1.t.r, .bool q1.t.w, .bool q1.t.x, .bool q1.t.a, .bool q1.t.n, .int .i64 q1.t.s] 34)))
            have E213 := Lib.hid ((E212.out.alloc (.cells #[.int .i64 q1.k, .int .i64 q1.vm, .int .i64 q1.sp, .bool q1.al, .int .i64 q1.pg, .int .i64 q1.lv, .int .i64 q1.fr, .int .i64 q1.mi, .bool q1.t.r, .bool q1.t.w, .bool q1.t.x, .bool q1.t.a, .bool q1.t.n, .int .i64 q1.t.s] 34)))
            have D213 := Lib.hid ((D212.out.alloc (.cells #[.int .i64 q1.k, .int .i64 q1.vm, .int .i64 q1.sp, .bool q1.al, .int .i64 q1.pg, .int .i64 q1.lv, .int .i64 q1.fr, .int .i64 q1.mi, .bool q1.t.r, .bool q1.t.w, .bool q1.t.x, .bool q1.t.a, .bool q1.t.n, .int .i64 q1.t.s] 34)))
            have B13 := Lib.hid ((bel_alloc B12.out (.cells #[.int .i64 q1.k, .int .i64 q1.vm, .int .i64 q1.sp, .bool q1.al, .int .i64 q1.pg, .int .i64 q1.lv, .int .i64 q1.fr, .int .i64 q1.mi, .bool q1.t.r, .bool q1.t.w, .bool q1.t.x, .bool q1.t.a, .bool q1.t.n, .int .i64 q1.t.s] 34)))
            obtain ⟨g13, hg13⟩ : ∃ g13, g13 = w12.heap.size := ⟨_, rfl⟩
            obtain ⟨W13, hW13⟩ : ∃ W13, W13 = (w12).alloc (.cells #[.int .i64 q1.k, .int .i64 q1.vm, .int .i64 q1.sp, .bool q1.al, .int .i64 q1.pg, .int .i64 q1.lv, .int .i64 q1.fr, .int .i64 q1.mi, .bool q1.t.r, .bool q1.t.w, .bool q1.t.x, .bool q1.t.a, .bool q1.t.n, .int .i64 q1.t.s] 34) := ⟨_, rfl⟩
            have hs13 : g13 + 1 ≤ W13.heap.size := by rw [hW13, hg13]; simp
            rw [← hW13] at P13 T13 X13 Z13 Y13 D13 V13 E213 D213 B13 ⊢
            have hb13 : g6 + 1 ≤ g13 := by omega
            rw [← hg13] at Y13 ⊢
            clear hg13
            clear hW13 P12 T12 X12 Z12 D12 V12 E212 D212 B12 hs12
            have Xc0 := X13.out.get 0 (.int .i64 x.e.k) rfl
            have Xc1 := X13.out.get 1 (.int .i64 x.e.vm) rfl
            have Xc2 := X13.out.get 2 (.int .i64 x.e.sp) rfl
            have Xc3 := X13.out.get 3 (.bool x.e.al) rfl
            have Xc4 := X13.out.get 4 (.int .i64 x.e.pg) rfl
            have Xc5 := X13.out.get 5 (.int .i64 x.e.lv) rfl
            have Xc6 := X13.out.get 6 (.int .i64 x.e.fr) rfl
            have Xc7 := X13.out.get 7 (.int .i64 x.e.mi) rfl
            have Xc8 := X13.out.get 8 (.bool true) rfl
            have Xc9 := X13.out.get 9 (.bool x.e.t.w) rfl
            have Xc10 := X13.out.get 10 (.bool x.e.t.x) rfl
            have Xc11 := X13.out.get 11 (.bool x.e.t.a) rfl
            have Xc12 := X13.out.get 12 (.bool x.e.t.n) rfl
            have Xc13 := X13.out.get 13 (.int .i64 x.e.t.s) rfl
            go_wp2_with fail
            refine (HIN2.out f9a (wl + 1) c9a _ (V13.out).rows.2 (V13.out).rows.1 (by omega)).mono ?_
            rintro e w14 ⟨rfl, hb14⟩
            have hz14 := hb14.size
            have P14 := Lib.hid (P13.out.below hb14)
            have T14 := Lib.hid (T13.out.below hb14)
            have X14 := Lib.hid (X13.out.below hb14)
            have Z14 := Lib.hid (Z13.out.below hb14)
            have Y14 := Lib.hid (Y13.out.below hb14)
            have D14 := Lib.hid (D13.out.below hb14)
            have V14 := Lib.hid (V13.out.below hb14)
            have E214 := Lib.hid (E213.out.below hb14)
            have D214 := Lib.hid (D213.out.below hb14)
            have B14 := Lib.hid (bel_trans B13.out hb14)
            skip
            have hs14 : g13 + 1 ≤ w14.heap.size := by omega
            clear Xc0 Xc1 Xc2 Xc3 Xc4 Xc5 Xc6 Xc7 Xc8 Xc9 Xc10 Xc11 Xc12 Xc13
            clear P13 T13 X13 Z13 Y13 D13 V13 E213 D213 B13 hs13 hb14 hz14
            by_cases h3 : 0 ≤ n2
            rotate_left
            · have dn2 : decide (0 ≤ n2) = false := decide_eq_false h3
              go_wp2
              go_roundw
              case rel => exact ⟨k + 1, F2, f5, g5, f9a, l5, c5, d5, (wl + 1), c9a, by omega, rfl, by go_num, P14.out, T14.out, E214.out, D214.out, V14.out, HM2.out, B14.out⟩
              case measure => simp [intOf]; omega
            have dn2 : decide (0 ≤ n2) = true := decide_eq_true h3
            obtain ⟨a1, a2, a3, hrr⟩ := HMD.out (by rw [← HN2.out]; exact h3)
            have nq2 : (q2 != 0) = false := by rw [a1]; rfl
            have npg : (q1.pg != x.e.pg) = false := by rw [a2]; simp
            have nvm : (q1.vm != x.e.vm) = false := by rw [a3]; simp
            clear a1 a2 a3
            go_wp2_with fail
            refine (num9_any _ _).mono ?_
            rintro e w15 ⟨rfl, rfl⟩
            have Yc4 := Y14.out.get 4 (.int .i64 q1.pg) rfl
            have Xc4 := X14.out.get 4 (.int .i64 x.e.pg) rfl
            have Yc1 := Y14.out.get 1 (.int .i64 q1.vm) rfl
            have Xc1 := X14.out.get 1 (.int .i64 x.e.vm) rfl
            have Yc8 := Y14.out.get 8 (.bool q1.t.r) rfl
            go_wp2
            go_roundw
            case rel => exact ⟨k + 1, F2, f5, g5, f9a, l5, c5, d5, (wl + 1), c9a, by omega, rfl, by go_num, P14.out, T14.out, E214.out, D214.out, V14.out, HM2.out, B14.out⟩
            case measure => simp [intOf]; omega
        · have d40 : decide ((k : Int) < 40) = false := decide_eq_false (by omega)
          have Pc2 := Pr.out.get 2 (.slice h n kk) rfl
          go_wp2_with fail
          refine (wakes9_any _).mono ?_
          rintro e w4 ⟨rfl, hb4⟩
          have hz4 := hb4.size
          have P4 := Lib.hid (Pr.out.below hb4)
          have T4 := Lib.hid (Tr.out.below hb4)
          have E4 := Lib.hid (Er.out.below hb4)
          have D4 := Lib.hid (Dr.out.below hb4)
          have V4 := Lib.hid (Vr.out.below hb4)
          have B4 := Lib.hid (bel_trans Br.out hb4)
          skip
          have hs4 : mr ≤ w4.heap.size := by omega
          clear Pc2
          clear Pr Tr Er Dr Vr Br hsr hb4 hz4
          go_wp2
          go_ret
          exact ⟨rfl, B4.out⟩
      · have Pc2 := Pr.out.get 2 (.slice h n kk) rfl
        go_wp2_with fail
        refine (wakes9_any _).mono ?_
        rintro e w4 ⟨rfl, hb4⟩
        have hz4 := hb4.size
        have P4 := Lib.hid (Pr.out.below hb4)
        have T4 := Lib.hid (Tr.out.below hb4)
        have E4 := Lib.hid (Er.out.below hb4)
        have D4 := Lib.hid (Dr.out.below hb4)
        have V4 := Lib.hid (Vr.out.below hb4)
        have B4 := Lib.hid (bel_trans Br.out hb4)
        skip
        have hs4 : mr ≤ w4.heap.size := by omega
        clear Pc2
        clear Pr Tr Er Dr Vr Br hsr hb4 hz4
        go_wp2
        go_ret
        exact ⟨rfl, B4.out⟩
  go_wp2
  go_ret
  exact ⟨rfl, B2.out⟩
end Go.Proofs.Ytcbjmpllmnphkaa
