/- Rows of TLBs: as they lie in memory, and of the call's own, each slice in a block of its own. Rows of TLBs: copied, compared; may they be. The landed package inval: Wait. The reference's Wait. A row of TLBs is spoiled: contract. The walk of InvalWaits. -/
import Derived.Test.YtjohnpbfdpmajaaIk
import Derived.Test.YtjohnpbfdpmajaaIl
import Derived.Laws.MakeOwn
set_option linter.all false
namespace Go.Proofs.Ytjohnpbfdpmajaa
section
open Go.ChangeShapes Go.WideShapes Go.ChangeAt Go.RowKit Go.Deep Go.Shelf

/-- What a TLB holds. -/
structure Tlx where
  E : List Ety
  D : List Inv
structure TlAt (w : World) (h : Tlh) (t : Tlx) : Prop where
  lE : h.l = t.E.length
  rE : RowsAt KE w h.f t.E
  cE : h.l ≤ h.c ∧ h.c ≤ maxLen ∧ (h.f = none → h.c = 0)
  lD : h.m = t.D.length
  rD : RowsAt KI w h.g t.D
  cD : h.m ≤ h.d ∧ h.d ≤ maxLen ∧ (h.g = none → h.d = 0)
theorem TlAt.below {w w' : World} {h : Tlh} {t : Tlx} (a : TlAt w h t) (hb : Below w.heap.size w w') : TlAt w' h t :=
  ⟨a.lE, a.rE.below hb, a.cE, a.lD, a.rD.below hb, a.cD⟩
/-- A row of TLBs in memory. -/
structure TlsAt (w : World) (f : Option Addr) (H : List Tlh) (T : List Tlx) : Prop where
  row : RowsAt KT w f H
  len : H.length = T.length
  all : ∀ (i : Nat) (h : Tlh) (t : Tlx), H[i]? = some h → T[i]? = some t → TlAt w h t
theorem TlsAt.below {w w' : World} {f : Option Addr} {H : List Tlh} {T : List Tlx} (a : TlsAt w f H T) (hb : Below w.heap.size w w') : TlsAt w' f H T :=
  ⟨a.row.below hb, a.len, fun i h t h1 h2 => (a.all i h t h1 h2).below hb⟩
theorem TlsAt.nil (w : World) (f : Option Addr) : TlsAt w f [] [] := ⟨RowsAt.nil w f, rfl, fun i h t h1 _ => by simp at h1⟩
/-- The k-th of them. -/
theorem TlsAt.get {w : World} {f : Option Addr} {H : List Tlh} {T : List Tlx} {n : Nat} (a : TlsAt w f H T) (hn : n = T.length) {k : Nat} (hk : k < n) :
    ∃ h t b o, H[k]? = some h ∧ T[k]? = some t ∧ f = some ⟨b, o, none⟩ ∧ RowAt w b (o + k * 2) 2 #[.slice h.f h.l h.c, .slice h.g h.m h.d] ∧ TlAt w h t := by
  subst hn
  have h1 : k < H.length := by rw [a.len]; exact hk
  obtain ⟨b, o, hf, hr⟩ := a.row k _ (List.getElem?_eq_getElem h1)
  exact ⟨H[k], T[k], b, o, List.getElem?_eq_getElem h1, List.getElem?_eq_getElem hk, hf, hr, a.all k _ _ (List.getElem?_eq_getElem h1) (List.getElem?_eq_getElem hk)⟩
/-- The blocks of a header's slices. -/
def Tlh.eB (h : Tlh) : Option Nat := (Value.slice h.f h.l h.c).ownBlock
def Tlh.dB (h : Tlh) : Option Nat := (Value.slice h.g h.m h.d).ownBlock
structure TlOwn (w : World) (base : Nat) (h : Tlh) (t : Tlx) : Prop where
  oE : OwnR KE w base (.slice h.f h.l h.c) t.E
  oD : OwnR KI w base (.slice h.g h.m h.d) t.D
theorem TlOwn.at {w : World} {base : Nat} {h : Tlh} {t : Tlx} (a : TlOwn w base h t) : TlAt w h t :=
  ⟨a.oE.rows.1, a.oE.rows.2, a.oE.fit, a.oD.rows.1, a.oD.rows.2, a.oD.fit⟩
/-- The slices of a row of TLBs, of the call's own, no two in one block. -/
structure OwnTs (w : World) (base : Nat) (H : List Tlh) (T : List Tlx) : Prop where
  len : H.length = T.length
  own : ∀ (i : Nat) (h : Tlh) (t : Tlx), H[i]? = some h → T[i]? = some t → TlOwn w base h t
  apE : ∀ (i j : Nat) (h k : Tlh), i ≠ j → H[i]? = some h → H[j]? = some k → h.eB = none ∨ h.eB ≠ k.eB
  apD : ∀ (i j : Nat) (h k : Tlh), i ≠ j → H[i]? = some h → H[j]? = some k → h.dB = none ∨ h.dB ≠ k.dB
theorem OwnTs.nil (w : World) (base : Nat) : OwnTs w base [] [] :=
  ⟨rfl, fun i h t h1 _ => by simp at h1, fun i j h k _ h1 _ => by simp at h1, fun i j h k _ h1 _ => by simp at h1⟩
theorem OwnTs.map {w w' : World} {base base' : Nat} {H : List Tlh} {T : List Tlx} (a : OwnTs w base H T) (hm : ∀ (i : Nat) (h : Tlh) (t : Tlx), H[i]? = some h → T[i]? = some t → TlOwn w base h t → TlOwn w' base' h t) : OwnTs w' base' H T :=
  ⟨a.len, fun i h t h1 h2 => hm i h t h1 h2 (a.own i h t h1 h2), a.apE, a.apD⟩
theorem OwnTs.below {w w' : World} {base : Nat} {H : List Tlh} {T : List Tlx} (a : OwnTs w base H T) (hb : Below w.heap.size w w') : OwnTs w' base H T :=
  a.map fun _ _ _ _ _ o => ⟨o.oE.below hb, o.oD.below hb⟩
theorem OwnTs.alloc {w : World} {base : Nat} {H : List Tlh} {T : List Tlx} (a : OwnTs w base H T) (o : Obj) : OwnTs (w.alloc o) base H T := a.below (bel_alloc (Below.refl _ _) o)
theorem OwnTs.drew {w : World} {base : Nat} {H : List Tlh} {T : List Tlx} (a : OwnTs w base H T) : OwnTs w.drew base H T := a.below (Below.drew (Below.refl _ _))
theorem OwnTs.mono {w : World} {base base' : Nat} {H : List Tlh} {T : List Tlx} (a : OwnTs w base H T) (hb : base' ≤ base) : OwnTs w base' H T :=
  a.map fun _ _ _ _ _ o => ⟨o.oE.mono hb, o.oD.mono hb⟩
theorem OwnTs.at {w : World} {base base' n c : Nat} {f : Option Addr} {H : List Tlh} {T : List Tlx} (a : OwnTs w base H T) (hO : OwnR KT w base' (.slice f n c) H) : TlsAt w f H T :=
  ⟨hO.rows.2, a.len, fun i h t h1 h2 => (a.own i h t h1 h2).at⟩
/-- Another row of another type grows. -/
theorem OwnTs.grownO {Q2 : Type} {K2 : RowK Q2} {w w' : World} {base base2 : Nat} {v2 : Value} {L2 : List Q2} {H : List Tlh} {T : List Tlx} (a : OwnTs w base H T) (h2 : OwnR K2 w base2 v2 L2) (ht : KE.t ≠ K2.t ∧ KI.t ≠ K2.t) (hg : w.grownBy w' v2.ownBlock) : OwnTs w' base H T :=
  a.map fun _ _ _ _ _ o => ⟨o.oE.grownO h2 ht.1 hg, o.oD.grownO h2 ht.2 hg⟩
theorem ownR_kept {Q : Type} {K : RowK Q} {w w' : World} {base : Nat} {v : Value} {L : List Q} {row : Option Nat} (h : OwnR K w base v L) (hg : w.grownBy w' row) (hne : v.ownBlock = none ∨ v.ownBlock ≠ row) : OwnR K w' base v L := World.ownsRow.kept h hg hne
/-- A row that none of them lies in grows. -/
theorem OwnTs.kept {w w' : World} {base : Nat} {row : Option Nat} {H : List Tlh} {T : List Tlx} (a : OwnTs w base H T) (hg : w.grownBy w' row) (hne : ∀ h ∈ H, (h.eB = none ∨ h.eB ≠ row) ∧ (h.dB = none ∨ h.dB ≠ row)) : OwnTs w' base H T :=
  a.map fun _ h _ h1 _ o => ⟨ownR_kept o.oE hg (hne h (List.mem_of_getElem? h1)).1, ownR_kept o.oD hg (hne h (List.mem_of_getElem? h1)).2⟩
theorem OwnTs.blt {w : World} {base : Nat} {H : List Tlh} {T : List Tlx} (a : OwnTs w base H T) : ∀ h ∈ H, (∀ k, h.eB = some k → k < w.heap.size) ∧ (∀ k, h.dB = some k → k < w.heap.size) := by
  intro h hm
  obtain ⟨i, hi, rfl⟩ := List.mem_iff_getElem.1 hm
  have h1 : H[i]? = some H[i] := List.getElem?_eq_getElem hi
  have h2 : T[i]? = some (T[i]'(by rw [← a.len]; exact hi)) := List.getElem?_eq_getElem _
  have o := a.own i _ _ h1 h2
  exact ⟨o.oE.blt, o.oD.blt⟩
/-- One more, in new blocks. -/
theorem OwnTs.push {w : World} {base B : Nat} {h : Tlh} {t : Tlx} {H : List Tlh} {T : List Tlx} (a : OwnTs w base H T) (o : TlOwn w B h t) (hB : base ≤ B) (hl : ∀ h ∈ H, (∀ k, h.eB = some k → k < B) ∧ (∀ k, h.dB = some k → k < B)) : OwnTs w base (H ++ [h]) (T ++ [t]) := by
  have hlen := a.len
  have cut : ∀ (i : Nat) (k : Tlh), (H ++ [h])[i]? = some k → (i < H.length ∧ H[i]? = some k) ∨ (i = H.length ∧ k = h) := by
    intro i k hi
    by_cases hlt : i < H.length
    · rw [List.getElem?_append_left hlt] at hi
      exact .inl ⟨hlt, hi⟩
    · rw [List.getElem?_append_right (by omega)] at hi
      have : i - H.length = 0 := by
        cases hq : i - H.length with
        | zero => rfl
        | succ j => rw [hq] at hi; simp at hi
      rw [this] at hi
      simp at hi
      exact .inr ⟨by omega, hi.symm⟩
  refine ⟨by simp [hlen], ?_, ?_, ?_⟩
  · intro i k x hi hx
    rcases cut i k hi with ⟨hlt, h1⟩ | ⟨rfl, rfl⟩
    · rw [List.getElem?_append_left (by omega)] at hx
      exact a.own i k x h1 hx
    · rw [List.getElem?_append_right (by omega), hlen, Nat.sub_self] at hx
      simp at hx
      subst hx
      exact ⟨o.oE.mono hB, o.oD.mono hB⟩
  · intro i j k k' hij hi hj
    rcases cut i k hi with ⟨h1, h2⟩ | ⟨rfl, rfl⟩ <;> rcases cut j k' hj with ⟨h3, h4⟩ | ⟨rfl, rfl⟩
    · exact a.apE i j k k' hij h2 h4
    · cases hk : k.eB with
      | none => exact .inl rfl
      | some b =>
        right
        intro he
        have := (hl k (List.mem_of_getElem? h2)).1 b hk
        have := o.oE.blk b he.symm
        omega
    · cases hk : k.eB with
      | none => exact .inl rfl
      | some b =>
        right
        intro he
        have := (hl k' (List.mem_of_getElem? h4)).1 b he.symm
        have := o.oE.blk b hk
        omega
    · exact absurd rfl hij
  · intro i j k k' hij hi hj
    rcases cut i k hi with ⟨h1, h2⟩ | ⟨rfl, rfl⟩ <;> rcases cut j k' hj with ⟨h3, h4⟩ | ⟨rfl, rfl⟩
    · exact a.apD i j k k' hij h2 h4
    · cases hk : k.dB with
      | none => exact .inl rfl
      | some b =>
        right
        intro he
        have := (hl k (List.mem_of_getElem? h2)).2 b hk
        have := o.oD.blk b he.symm
        omega
    · cases hk : k.dB with
      | none => exact .inl rfl
      | some b =>
        right
        intro he
        have := (hl k' (List.mem_of_getElem? h4)).2 b he.symm
        have := o.oD.blk b hk
        omega
    · exact absurd rfl hij
/-- A row of the call's own is not in the block of one of another type. -/
theorem OwnR.ne_own {Q Q2 : Type} {K : RowK Q} {K2 : RowK Q2} {w : World} {base base2 : Nat} {v v2 : Value} {L : List Q} {L2 : List Q2} (h : OwnR K w base v L) (h2 : OwnR K2 w base2 v2 L2) (ht : K.t ≠ K2.t) : ∀ g, v2.ownBlock = some g → v.ownBlock ≠ some g := by
  intro g hg
  rcases h2.2 with hn | ⟨g', cap, cur, rfl, hbg, hgg, _⟩
  · rw [hn.1] at hg; simp [Value.ownBlock] at hg
  · have : g' = g := by simpa [Value.ownBlock] using hg
    subst this
    exact h.ne_box (⟨hgg⟩ : BoxAt w g' cur K2.t) (fun e => ht e.symm)
theorem OwnTs.ne_box {w : World} {base b : Nat} {H : List Tlh} {T : List Tlx} {cs : Array Value} {t : TypeId} (a : OwnTs w base H T) (hx : BoxAt w b cs t) (ht : t ≠ KE.t ∧ t ≠ KI.t) : ∀ h ∈ H, h.eB ≠ some b ∧ h.dB ≠ some b := by
  intro h hm
  obtain ⟨i, hi, rfl⟩ := List.mem_iff_getElem.1 hm
  have o := a.own i _ _ (List.getElem?_eq_getElem hi) (List.getElem?_eq_getElem (by rw [← a.len]; exact hi))
  exact ⟨o.oE.ne_box hx ht.1, o.oD.ne_box hx ht.2⟩
theorem OwnTs.otherN {w : World} {base : Nat} {H : List Tlh} {T : List Tlx} (a : OwnTs w base H T) (p : Addr) (y : Value) (hne : ∀ h ∈ H, h.eB ≠ some p.block ∧ h.dB ≠ some p.block) : OwnTs (w.setCell p y) base H T :=
  a.map fun _ h _ h1 _ o => ⟨o.oE.otherN p y (hne h (List.mem_of_getElem? h1)).1, o.oD.otherN p y (hne h (List.mem_of_getElem? h1)).2⟩
/-- A cell of the headers' row is laid anew: what is still to be taken away is none. -/
theorem rcells_setD : ∀ (H : List Tlh) (i : Nat) (h : Tlh), H[i]? = some h → (rcells KT H).set (i * 2 + 1) (.slice none 0 0) = rcells KT (H.set i ⟨h.f, h.l, h.c, none, 0, 0⟩)
  | [], i, h, hi => by simp at hi
  | x :: H, 0, h, hi => by
    simp only [List.getElem?_cons_zero, Option.some.injEq] at hi
    subst hi
    rfl
  | x :: H, i + 1, h, hi => by
    have h2 : H[i]? = some h := by simpa using hi
    have := rcells_setD H i h h2
    rw [List.set_cons_succ, rcells, rcells, ← this]
    show (Value.slice x.f x.l x.c :: Value.slice x.g x.m x.d :: rcells KT H).set ((i + 1) * 2 + 1) _ = _
    rw [show (i + 1) * 2 + 1 = (i * 2 + 1) + 1 + 1 from by omega, List.set_cons_succ, List.set_cons_succ]
    rfl
theorem OwnR.setD {w : World} {base g n c : Nat} {H : List Tlh} (a : OwnR KT w base (.slice (some ⟨g, 0, none⟩) n c) H) (i : Nat) (h : Tlh) (hi : H[i]? = some h) :
    OwnR KT (w.setCell ⟨g, i * 2 + 1, none⟩ (.slice none 0 0)) base (.slice (some ⟨g, 0, none⟩) n c) (H.set i ⟨h.f, h.l, h.c, none, 0, 0⟩) := by
  have hn := a.rows.1
  subst hn
  have := (World.ownsRow.stored a (i * 2 + 1) (.slice none 0 0)).1
  unfold OwnR
  rw [← rcells_setD H i h hi, List.length_set]
  exact this
theorem OwnTs.setD {w : World} {base base' g n c : Nat} {H : List Tlh} {T : List Tlx} (a : OwnTs w base H T) (hO : OwnR KT w base' (.slice (some ⟨g, 0, none⟩) n c) H) (j i : Nat) (h : Tlh) (t : Tlx) (hi : H[i]? = some h) (ht : T[i]? = some t) :
    OwnTs (w.setCell ⟨g, j, none⟩ (.slice none 0 0)) base (H.set i ⟨h.f, h.l, h.c, none, 0, 0⟩) (T.set i ⟨t.E, []⟩) := by
  have hil : i < H.length := (List.getElem?_eq_some_iff.1 hi).1
  have hjl : i < T.length := (List.getElem?_eq_some_iff.1 ht).1
  have hk : ∀ (y : Value), OwnTs (w.setCell ⟨g, j, none⟩ y) base H T := fun y => a.map fun _ _ _ _ _ o =>
    ⟨o.oE.otherN _ y (o.oE.ne_own hO (by decide) g rfl), o.oD.otherN _ y (o.oD.ne_own hO (by decide) g rfl)⟩
  have q := hk (.slice none 0 0)
  have cut : ∀ (k : Nat) (x : Tlh), (H.set i ⟨h.f, h.l, h.c, none, 0, 0⟩)[k]? = some x → (k ≠ i ∧ H[k]? = some x) ∨ (k = i ∧ x = ⟨h.f, h.l, h.c, none, 0, 0⟩) := by
    intro k x hx
    by_cases hki : k = i
    · subst hki
      rw [List.getElem?_set_self hil] at hx
      exact .inr ⟨rfl, (Option.some.inj hx).symm⟩
    · rw [List.getElem?_set_ne (fun e => hki e.symm)] at hx
      exact .inl ⟨hki, hx⟩
  refine ⟨by simp [a.len], ?_, ?_, ?_⟩
  · intro k x y hx hy
    rcases cut k x hx with ⟨hki, h1⟩ | ⟨rfl, rfl⟩
    · rw [List.getElem?_set_ne (fun e => hki e.symm)] at hy
      exact q.own k x y h1 hy
    · rw [List.getElem?_set_self hjl] at hy
      obtain rfl := Option.some.inj hy
      exact ⟨(q.own k h t hi ht).oE, OwnR.nil _ _⟩
  · intro k k' x y hkk hx hy
    rcases cut k x hx with ⟨h1, h2⟩ | ⟨rfl, rfl⟩ <;> rcases cut k' y hy with ⟨h3, h4⟩ | ⟨rfl, rfl⟩
    · exact a.apE k k' x y hkk h2 h4
    · exact a.apE k k' x h hkk h2 hi
    · exact a.apE k k' h y hkk hi h4
    · exact absurd rfl hkk
  · intro k k' x y hkk hx hy
    rcases cut k x hx with ⟨h1, h2⟩ | ⟨rfl, rfl⟩ <;> rcases cut k' y hy with ⟨h3, h4⟩ | ⟨rfl, rfl⟩
    · exact a.apD k k' x y hkk h2 h4
    · cases hk : x.dB with
      | none => exact .inl rfl
      | some b => exact .inr (by intro e; cases e)
    · exact .inl rfl
    · exact absurd rfl hkk
/-- What a call that makes a row of TLBs leaves. -/
def EndTs (w : World) (T : List Tlx) (r : Ending) (w' : World) : Prop :=
  ∃ f' c' H', r = .returned (.slice f' T.length c') ∧ OwnR KT w' w.heap.size (.slice f' T.length c') H' ∧ OwnTs w' w.heap.size H' T ∧ Below w.heap.size w w'
def mayTs (T : List Tlx) : Bool := T.all fun t => mayT t.E t.D
/-- What all are when what one had still to take away is taken from each. -/
def keepT (D : List Inv) (t : Tlx) : Tlx := ⟨keptE (fun e => anyT e D) t.E, t.D⟩
def waitT (T : List Tlx) (k : Nat) (t : Tlx) : List Tlx := (T.map (keepT t.D)).set k ⟨keptE (fun e => anyT e t.D) t.E, []⟩
theorem waitT_len (T : List Tlx) (k : Nat) (t : Tlx) : (waitT T k t).length = T.length := by simp [waitT]
end
section
open Go.ChangeShapes Go.WideShapes Go.ChangeAt Go.RowKit Go.Deep Go.Shelf

theorem take_one {α : Type} {L : List α} {k : Nat} {x : α} (h : L[k]? = some x) : L.take (k + 1) = L.take k ++ [x] := by
  rw [List.take_add_one, h]
  rfl
/-- 'append(s, x)', the row's length told. -/
theorem wpList_pushN {Q : Type} {K : RowK Q} {w : World} {ops : Array Oper} {rest : List Oper} {o : Oper} {a : Act} {QQ : Exit → Act → World → Prop} (hgd : o.guard = none) (s x : Operand)
    (ho : o.op = .call { callee := .builtin .append, args := #[s, x], argTypes := #[K.ts, K.ts] })
    (base : Nat) (v : Value) (L : List Q) (n : Nat) (hn : n = L.length) (hs : a.eval s = v) (hown : OwnR K w base v L)
    (b c : Nat) (y : Q) (hx : a.eval x = .slice (some ⟨b, 0, none⟩) 1 c) (hy : ∀ i, i < K.N → w.cell? ⟨b, i, none⟩ = (K.V y)[i]?) (hk : n ≤ 100000) (hbase : base ≤ w.heap.size)
    (h : ∀ f' c' w', OwnR K w' base (.slice f' (n + 1) c') (L ++ [y]) → w.grownBy w' v.ownBlock → wpList Try.prog ops QQ rest (a.put o.dst (.slice f' (n + 1) c')) w') : wpList Try.prog ops QQ (o :: rest) a w := by
  subst hn
  exact wpList_pushR hgd s x ho base v L hs hown b c y hx hy hk hbase h
set_option maxRecDepth 100000 in
set_option maxHeartbeats 3200000 in
theorem copyTs_any (f : Option Addr) (l c : Nat) (H : List Tlh) (T : List Tlx) (w : World) (hA : TlsAt w f H T) (hn : l = T.length) (hl : l ≤ 90000) (hs : ∀ t ∈ T, t.E.length ≤ 90000 ∧ t.D.length ≤ 90000) :
    Calls Try.prog 29 #[.slice f l c] w (EndTs w T) := by
  unfold EndTs
  have HA := Lib.hid hA
  have HN := Lib.hid hn
  have HS := Lib.hid hs
  clear hA hn hs
  have htw : w.heap.size ≤ w.heap.size := Nat.le_refl _
  have B0 := Lib.hid (Below.refl w.heap.size w)
  go_enter Try.func29, Try.ntmps29
  go_wp2
  have L0 := Lib.hid (show OwnR KT w w.heap.size (.slice none 0 0) [] from OwnR.nil _ _)
  have X0 := Lib.hid (show OwnTs w w.heap.size [] (T.take 0) from OwnTs.nil _ _)
  go_wp2
  go_loopw [4, 3] (fun i i0 wr => ∃ (k : Nat) (xf : Option Addr) (xc : Nat) (xH : List Tlh), k ≤ l ∧ i = .int .i64 k ∧ i0 = .slice xf k xc ∧ Hid (Below w.heap.size w wr) ∧ Hid (OwnR KT wr (w.heap.size) (.slice xf k xc) (xH)) ∧ Hid (OwnTs wr (w.heap.size) (xH) (T.take k))) (fun i _ _ => l - (intOf i).toNat)
  case atStart => exact ⟨0, none, 0, [], by omega, rfl, rfl, B0.out, L0.out, X0.out⟩
  case round =>
    clear L0 X0 B0
    obtain ⟨k, xf, xc, xH, hkk, rfl, rfl, Br, Lr, Xr⟩ := hrel
    obtain ⟨mr, hmr⟩ : ∃ mr, mr = wr.heap.size := ⟨_, rfl⟩
    have hgwr : w.heap.size ≤ mr := by rw [hmr]; exact Br.out.size
    have HBLr := Lib.hid (show ∀ jB, (.slice xf k xc : Value).ownBlock = some jB → jB < mr from by rw [hmr]; exact Lr.out.blt)
    have HBXr := Lib.hid (show ∀ hB ∈ xH, (∀ jB, hB.eB = some jB → jB < mr) ∧ (∀ jB, hB.dB = some jB → jB < mr) from by rw [hmr]; exact Xr.out.blt)
    have hsr : mr ≤ wr.heap.size := by omega
    clear hmr
    by_cases hltk : k < l
    · have ik0k : (0 : Int) ≤ (k : Int) := by omega
      have ik1k : (k : Int) < (l : Int) := by omega
      have ikwk : IntKind.i64.wrap ((k : Int) + 1) = (k : Int) + 1 := IntWalk.i64_in _ (by omega)
      obtain ⟨xh, xt, b, o, xhh, xht, rfl, xr0, xa0⟩ := HA.out.get HN.out hltk
      have HRXT := Lib.hid (show RowAt w b (o + k * 2) 2 #[.slice xh.f xh.l xh.c, .slice xh.g xh.m xh.d] from xr0)
      have hb : b < w.heap.size := xr0.lt
      have HAx := Lib.hid xa0
      have HHx := Lib.hid xhh
      have HTx := Lib.hid xht
      clear xr0 xa0 xhh xht
      have HXL := Lib.hid Lr.out.rows.1
      have yXT := (HRXT.out.below Br.out)
      have yXT0 := yXT.get0 (.slice xh.f xh.l xh.c) (by decide) rfl
      have yXT1 := yXT.get 1 (.slice xh.g xh.m xh.d) (by decide) rfl
      clear yXT
      go_wp2_with fail
      refine (copyT_any xh.f xh.g xh.l xh.c xh.m xh.d xt.E xt.D _ (HAx.out.rE.below Br.out) HAx.out.lE (HAx.out.rD.below Br.out) HAx.out.lD (by have := HAx.out.lE; have := (HS.out xt (List.mem_of_getElem? HTx.out)).1; omega) (by have := HAx.out.lD; have := (HS.out xt (List.mem_of_getElem? HTx.out)).2; omega)).mono ?_
      rintro e w1 hE1
      unfold EndT at hE1
      obtain ⟨f1, c1, g1, d1, rfl, hEE1, hDD1, hb1⟩ := hE1
      have OE1 := Lib.hid (OwnR.mono hEE1 (base' := mr) (by first | omega | (simp; done) | (simp; omega)))
      have OD1 := Lib.hid (OwnR.mono hDD1 (base' := mr) (by first | omega | (simp; done) | (simp; omega)))
      clear hEE1 hDD1
      have hz1 := hb1.size
      have L1 := Lib.hid (Lr.out.below hb1)
      have X1 := Lib.hid (Xr.out.below hb1)
      have B1 := Lib.hid ((bel_trans Br.out hb1))
      skip
      have hs1 : mr ≤ w1.heap.size := by omega
      clear yXT0 yXT1
      clear Lr Xr Br hsr hb1 hz1
      go_upto_region 4 with (at_builtin; refine wpList_pushN (K := KT) rfl _ _ rfl w.heap.size _ xH k HXL.out rfl (L1.out.alloc (.cells #[.slice f1 xt.E.length c1, .slice g1 xt.D.length d1] 43)) (w1.heap.size) 1 (⟨f1, xt.E.length, c1, g1, xt.D.length, d1⟩ : Tlh) rfl (fun i _ => ((BoxAt.newAt (w1) #[.slice f1 xt.E.length c1, .slice g1 xt.D.length d1] 43 (w1.heap.size) (by first | omega | (simp; done) | (simp; omega)))).cell i) (by omega) (by first | omega | (simp; omega)) ?_; intro f2a c2a w2 hO2 hg2; have hz2 := hg2.size; try simp at hz2; have L2 := Lib.hid (hO2); have X2o := Lib.hid ((X1.out.alloc (.cells #[.slice f1 xt.E.length c1, .slice g1 xt.D.length d1] 43)).grownO (L1.out.alloc (.cells #[.slice f1 xt.E.length c1, .slice g1 xt.D.length d1] 43)) (by decide) hg2); have E2o := Lib.hid ((OE1.out.alloc (.cells #[.slice f1 xt.E.length c1, .slice g1 xt.D.length d1] 43)).grownO (L1.out.alloc (.cells #[.slice f1 xt.E.length c1, .slice g1 xt.D.length d1] 43)) (by decide) hg2); have D2o := Lib.hid ((OD1.out.alloc (.cells #[.slice f1 xt.E.length c1, .slice g1 xt.D.length d1] 43)).grownO (L1.out.alloc (.cells #[.slice f1 xt.E.length c1, .slice g1 xt.D.length d1] 43)) (by decide) hg2); have B2 := Lib.hid ((bel_alloc B1.out (.cells #[.slice f1 xt.E.length c1, .slice g1 xt.D.length d1] 43)).grown hg2 (show w.heap.size ≤ _ by first | omega | (simp; omega)) (fun k hk => Nat.le_trans (show w.heap.size ≤ w.heap.size by omega) ((L1.out.alloc (.cells #[.slice f1 xt.E.length c1, .slice g1 xt.D.length d1] 43)).blk k hk))); have hs2 : mr ≤ w2.heap.size := (by omega); clear L1 X1 OE1 OD1 B1 hg2 hO2 hz2 hs1)
      go_wp2
      have FN := Lib.hid (show OwnTs _ w.heap.size (xH ++ [(⟨f1, xt.E.length, c1, g1, xt.D.length, d1⟩ : Tlh)]) (T.take (k + 1)) from by rw [take_one HTx.out]; exact X2o.out.push (h := (⟨f1, xt.E.length, c1, g1, xt.D.length, d1⟩ : Tlh)) (t := xt) ⟨E2o.out, D2o.out⟩ (by omega) HBXr.out)
      go_roundw
      case rel => exact ⟨k + 1, f2a, c2a, (xH ++ [(⟨f1, xt.E.length, c1, g1, xt.D.length, d1⟩ : Tlh)]), by omega, by go_num, rfl, B2.out, L2.out, FN.out⟩
      case measure => simp [intOf] <;> omega
    · have hkl : k = T.length := by have := HN.out; omega
      have HTK := Lib.hid (show T.take k = T from List.take_of_length_le (by omega))
      go_wp2
      go_ret
      subst hkl
      exact ⟨xf, xc, xH, rfl, Lr.out, by have e3 := Xr.out; rwa [HTK.out] at e3, Br.out⟩
set_option maxRecDepth 100000 in
set_option maxHeartbeats 3200000 in
theorem eqTs_same (f f2 : Option Addr) (l c c2 : Nat) (H H2 : List Tlh) (T : List Tlx) (w : World) (hA : TlsAt w f H T) (hA2 : TlsAt w f2 H2 T) (hn : l = T.length) (hl : l ≤ 90000) (hs : ∀ t ∈ T, t.E.length ≤ 90000 ∧ t.D.length ≤ 90000) :
    Calls Try.prog 34 #[.slice f l c, .slice f2 l c2] w fun r w' => r = .returned (.bool true) ∧ Below w.heap.size w w' := by
  have HA := Lib.hid hA
  have HA2 := Lib.hid hA2
  have HN := Lib.hid hn
  have HS := Lib.hid hs
  clear hA hA2 hn hs
  have htw : w.heap.size ≤ w.heap.size := Nat.le_refl _
  have B0 := Lib.hid (Below.refl w.heap.size w)
  go_enter Try.func34, Try.ntmps34
  go_wp2
  go_loopw [5] (fun i wr => ∃ (k : Nat), k ≤ l ∧ i = .int .i64 k ∧ Hid (Below w.heap.size w wr)) (fun i _ => l - (intOf i).toNat)
  case atStart => exact ⟨0, by omega, rfl, B0.out⟩
  case round =>
    clear B0
    obtain ⟨k, hkk, rfl, Br⟩ := hrel
    obtain ⟨mr, hmr⟩ : ∃ mr, mr = wr.heap.size := ⟨_, rfl⟩
    have hgwr : w.heap.size ≤ mr := by rw [hmr]; exact Br.out.size
    have hsr : mr ≤ wr.heap.size := by omega
    clear hmr
    by_cases hltk : k < l
    · have ik0k : (0 : Int) ≤ (k : Int) := by omega
      have ik1k : (k : Int) < (l : Int) := by omega
      have ikwk : IntKind.i64.wrap ((k : Int) + 1) = (k : Int) + 1 := IntWalk.i64_in _ (by omega)
      obtain ⟨xh, xt, b, o, xhh, xht, rfl, xr0, xa0⟩ := HA.out.get HN.out hltk
      have HRXT := Lib.hid (show RowAt w b (o + k * 2) 2 #[.slice xh.f xh.l xh.c, .slice xh.g xh.m xh.d] from xr0)
      have hb : b < w.heap.size := xr0.lt
      have HAx := Lib.hid xa0
      have HHx := Lib.hid xhh
      have HTx := Lib.hid xht
      clear xr0 xa0 xhh xht
      obtain ⟨yh, yt, b2, o2, yhh, yht, rfl, yr0, ya0⟩ := HA2.out.get HN.out hltk
      have HRYT := Lib.hid (show RowAt w b2 (o2 + k * 2) 2 #[.slice yh.f yh.l yh.c, .slice yh.g yh.m yh.d] from yr0)
      have hb2 : b2 < w.heap.size := yr0.lt
      have HAy := Lib.hid ya0
      have HHy := Lib.hid yhh
      have HTy := Lib.hid yht
      clear yr0 ya0 yhh yht
      have hxy : xt = yt := by have h1 := HTx.out; have h2 := HTy.out; rw [h1] at h2; exact Option.some.inj h2
      subst hxy
      go_upto_region 6 with fail
      refine wp_region_held_drew (S := (fun w' => RowAt w' (b) (o + k * 2) 2 #[.slice xh.f xh.l xh.c, .slice xh.g xh.m xh.d] ∧ RowAt w' (b2) (o2 + k * 2) 2 #[.slice yh.f yh.l yh.c, .slice yh.g yh.m yh.d])) (by kernel_rfl) ⟨(HRXT.out.below Br.out).drew, (HRYT.out.below Br.out).drew⟩ (fun hS => ?_)
      refine tkR 0 17 (v := .slice (some ⟨b, o, none⟩) l c) rfl hS (fun _ _ => by kernel_rfl) ?_
      refine tkR 1 18 (v := .int .i64 k) rfl hS (fun _ _ => by kernel_rfl) ?_
      refine tkR 2 19 (v := .pointer (some ⟨b, o + k * 2, none⟩)) rfl hS (fun _ _ => run_ixN 22 43 (.tmp 17) (.tmp 18) b o l c k 2 (by kernel_rfl) (by kernel_rfl) (by kernel_rfl) Try.underlying22 (by kernel_rfl) hltk) ?_
      refine tkR 3 20 (v := .agg #[.slice xh.f xh.l xh.c, .slice xh.g xh.m xh.d]) rfl hS (fun _ h => run_ldN 43 (.tmp 19) b (o + k * 2) (by kernel_rfl) (by kernel_rfl) Try.underlying43 rfl (by kernel_rfl) ((h.1).sub 0 _ rfl (Nat.le_of_ble_eq_true rfl))) ?_
      refine tkR 4 21 (v := .slice (some ⟨b2, o2, none⟩) l c2) rfl hS (fun _ _ => by kernel_rfl) ?_
      refine tkR 5 22 (v := .int .i64 k) rfl hS (fun _ _ => by kernel_rfl) ?_
      refine tkR 6 23 (v := .pointer (some ⟨b2, o2 + k * 2, none⟩)) rfl hS (fun _ _ => run_ixN 22 43 (.tmp 21) (.tmp 22) b2 o2 l c2 k 2 (by kernel_rfl) (by kernel_rfl) (by kernel_rfl) Try.underlying22 (by kernel_rfl) hltk) ?_
      refine tkR 7 24 (v := .agg #[.slice yh.f yh.l yh.c, .slice yh.g yh.m yh.d]) rfl hS (fun _ h => run_ldN 43 (.tmp 23) b2 (o2 + k * 2) (by kernel_rfl) (by kernel_rfl) Try.underlying43 rfl (by kernel_rfl) ((h.2).sub 0 _ rfl (Nat.le_of_ble_eq_true rfl))) ?_
      try simp only [Act.put, List.setIfInBounds_toArray, List.set_cons_zero, List.set_cons_succ]
      refine wpAnyH_ready (rs := [8]) (by kernel_rfl) (by simp) ?_
      refine AllReadyH.cons (o := ⟨some 25, _, _, _, _, _⟩) rfl (fun K hK => ?_) AllReadyH.nil
      go_simp
      refine (eqT_same10 xh.f xh.g yh.f yh.g xh.l xh.c xh.m xh.d yh.l yh.c yh.m yh.d xt.E xt.D _ (HAx.out.rE.below (Below.drew Br.out)) HAx.out.lE (HAx.out.rD.below (Below.drew Br.out)) HAx.out.lD (HAy.out.rE.below (Below.drew Br.out)) HAy.out.lE (HAy.out.rD.below (Below.drew Br.out)) HAy.out.lD (by have := HAx.out.lE; have := (HS.out xt (List.mem_of_getElem? HTx.out)).1; omega) (by have := HAx.out.lD; have := (HS.out xt (List.mem_of_getElem? HTx.out)).2; omega)).mono ?_
      rintro e w1 ⟨rfl, hb1⟩
      have hz1 := hb1.size
      try simp at hz1
      refine hK.out _ _ ?_ (fun hS' => ?_)
      · exact ⟨hS.1.below hb1, hS.2.below hb1⟩
      clear hK K hS
      have hS := hS'
      clear hS'
      try simp only [Act.put, List.setIfInBounds_toArray, List.set_cons_zero, List.set_cons_succ]
      try simp only [Act.put, List.setIfInBounds_toArray, List.set_cons_zero, List.set_cons_succ]
      refine wpAnyH_take (i := 9) (oi := ⟨some 26, _, _, _, _, _⟩) (v := ?_) rfl (by kernel_rfl) (by kernel_rfl) (by kernel_rfl) (fun _ _ _ h => h) (Or.inl ⟨by rfl, ?_⟩) hS ?_
      rotate_left
      · (intro w' hSw; clear hSw; go_simp; try with_reducible rfl)
      simp only [Act.put, List.setIfInBounds_toArray, List.set_cons_zero, List.set_cons_succ]
      refine wpAnyH_done (by kernel_rfl) ?_ _
      try simp only [Act.put, List.setIfInBounds_toArray, List.set_cons_zero, List.set_cons_succ]
      have B2 := Lib.hid ((bel_trans (Below.drew Br.out) hb1))
      obtain ⟨W2, hW2⟩ : ∃ W2, W2 = w1 := ⟨_, rfl⟩
      have hs2 : mr ≤ W2.heap.size := by rw [hW2]; first | exact hsr | omega | (simp; omega)
      rw [← hW2] at B2 ⊢
      clear hW2 Br hsr
      go_wp2
      go_roundw
      case rel => exact ⟨k + 1, by omega, by go_num, B2.out⟩
      case measure => simp [intOf] <;> omega
    · go_wp2
      go_ret
      exact ⟨rfl, Br.out⟩
theorem mayTs_no {T : List Tlx} {k : Nat} {t : Tlx} (h : T[k]? = some t) (hm : mayT t.E t.D = false) : mayTs T = false := by
  unfold mayTs
  rw [List.all_eq_false]
  exact ⟨t, List.mem_of_getElem? h, by rw [hm]; decide⟩
theorem mayTs_next {T : List Tlx} {k : Nat} {t : Tlx} (h : T[k]? = some t) (hm : mayT t.E t.D = true) (h0 : mayTs (T.take k) = true) : mayTs (T.take (k + 1)) = true := by
  unfold mayTs at *
  rw [take_one h, List.all_append, h0]
  simp [hm]
theorem mayTs_mem {T : List Tlx} (h : mayTs T = true) {t : Tlx} (ht : t ∈ T) : mayT t.E t.D = true := by
  unfold mayTs at h
  exact List.all_eq_true.1 h t ht
set_option maxRecDepth 100000 in
set_option maxHeartbeats 3200000 in
theorem crewmay_any (f : Option Addr) (l c : Nat) (H : List Tlh) (T : List Tlx) (w : World) (hA : TlsAt w f H T) (hn : l = T.length) (hl : l ≤ 90000) (hs : ∀ t ∈ T, t.E.length ≤ 90000 ∧ t.D.length ≤ 90000) :
    Calls Try.prog 52 #[.slice f l c] w fun r w' => r = .returned (.bool (mayTs T)) ∧ Below w.heap.size w w' := by
  have HA := Lib.hid hA
  have HN := Lib.hid hn
  have HS := Lib.hid hs
  clear hA hn hs
  have htw : w.heap.size ≤ w.heap.size := Nat.le_refl _
  have B0 := Lib.hid (Below.refl w.heap.size w)
  go_enter Try.func52, Try.ntmps52
  have HMJ := Lib.hid (show mayTs (T.take 0) = true from rfl)
  go_wp2
  go_loopw [7] (fun i wr => ∃ (k : Nat), k ≤ l ∧ i = .int .i64 k ∧ Hid (Below w.heap.size w wr) ∧ Hid (mayTs (T.take (k)) = true)) (fun i _ => l - (intOf i).toNat)
  case atStart => exact ⟨0, by omega, rfl, B0.out, HMJ⟩
  case round =>
    clear B0 HMJ
    obtain ⟨k, hkk, rfl, Br, HMJ⟩ := hrel
    obtain ⟨mr, hmr⟩ : ∃ mr, mr = wr.heap.size := ⟨_, rfl⟩
    have hgwr : w.heap.size ≤ mr := by rw [hmr]; exact Br.out.size
    have hsr : mr ≤ wr.heap.size := by omega
    clear hmr
    by_cases hltk : k < l
    · have ik0k : (0 : Int) ≤ (k : Int) := by omega
      have ik1k : (k : Int) < (l : Int) := by omega
      have ikwk : IntKind.i64.wrap ((k : Int) + 1) = (k : Int) + 1 := IntWalk.i64_in _ (by omega)
      obtain ⟨xh, xt, b, o, xhh, xht, rfl, xr0, xa0⟩ := HA.out.get HN.out hltk
      have HRXT := Lib.hid (show RowAt w b (o + k * 2) 2 #[.slice xh.f xh.l xh.c, .slice xh.g xh.m xh.d] from xr0)
      have hb : b < w.heap.size := xr0.lt
      have HAx := Lib.hid xa0
      have HHx := Lib.hid xhh
      have HTx := Lib.hid xht
      clear xr0 xa0 xhh xht
      have HM := Lib.hid (fun W (hB : Below w.heap.size w W) => storemay_any xh.f xh.g xh.l xh.c xh.m xh.d xt.E xt.D W (HAx.out.rE.below hB) HAx.out.lE (HAx.out.rD.below hB) HAx.out.lD (by have := HAx.out.lE; have := (HS.out xt (List.mem_of_getElem? HTx.out)).1; omega) (by have := HAx.out.lD; have := (HS.out xt (List.mem_of_getElem? HTx.out)).2; omega) HAx.out.cE.1 HAx.out.cE.2.1)
      have HNO := Lib.hid (fun h => mayTs_no HTx.out h)
      have HNX := Lib.hid (fun h => mayTs_next HTx.out h HMJ.out)
      generalize mayT xt.E xt.D = o1 at *
      clear HMJ
      have yXT := (HRXT.out.below Br.out)
      have yXT0 := yXT.get0 (.slice xh.f xh.l xh.c) (by decide) rfl
      have yXT1 := yXT.get 1 (.slice xh.g xh.m xh.d) (by decide) rfl
      clear yXT
      go_upto_region 4 with fail
      clear yXT0 yXT1
      have S1 := Lib.hid ((BoxAt.newAt (wr) #[.slice xh.f xh.l xh.c, .slice xh.g xh.m xh.d] 43 (wr.heap.size) (by first | omega | (simp; done) | (simp; omega))))
      have B1 := Lib.hid ((bel_alloc Br.out (.cells #[.slice xh.f xh.l xh.c, .slice xh.g xh.m xh.d] 43)))
      obtain ⟨g1, hg1⟩ : ∃ g1, g1 = wr.heap.size := ⟨_, rfl⟩
      obtain ⟨W1, hW1⟩ : ∃ W1, W1 = (wr).alloc (.cells #[.slice xh.f xh.l xh.c, .slice xh.g xh.m xh.d] 43) := ⟨_, rfl⟩
      have hs1 : g1 + 1 ≤ W1.heap.size := by rw [hW1, hg1]; simp
      rw [← hW1] at S1 B1 ⊢
      have hb1 : mr ≤ g1 := by omega
      rw [← hg1] at S1 ⊢
      clear hg1
      clear hW1 Br hsr
      have Sc0 := S1.out.get 0 (.slice xh.f xh.l xh.c) rfl
      have Sc1 := S1.out.get 1 (.slice xh.g xh.m xh.d) rfl
      go_wp2_with fail
      refine (HM.out _ B1.out).mono ?_
      rintro e w2 ⟨rfl, hb2⟩
      have hz2 := hb2.size
      have S2 := Lib.hid (S1.out.below hb2)
      have B2 := Lib.hid ((bel_trans B1.out hb2))
      skip
      have hs2 : g1 + 1 ≤ w2.heap.size := by omega
      clear Sc0 Sc1
      clear S1 B1 hs1 hb2 hz2
      cases o1
      · have HR := Lib.hid (show false = mayTs T from (HNO.out (by first | trivial | rfl)).symm)
        go_wp2
        go_ret
        exact ⟨ret_bool HR.out, B2.out⟩
      have HMJ := Lib.hid (HNX.out (by first | trivial | rfl))
      go_wp2
      go_roundw
      case rel => exact ⟨k + 1, by omega, by go_num, B2.out, HMJ⟩
      case measure => simp [intOf] <;> omega
    · have HR := Lib.hid (show true = mayTs T from by have h := HMJ.out; rw [List.take_of_length_le (by have := HN.out; omega)] at h; exact h.symm)
      go_wp2
      go_ret
      exact ⟨ret_bool HR.out, Br.out⟩
set_option maxRecDepth 100000 in
set_option maxHeartbeats 3200000 in
theorem tlbs9_any (f : Option Addr) (l c : Nat) (H : List Tlh) (T : List Tlx) (w : World) (hA : TlsAt w f H T) (hn : l = T.length) (hl : l ≤ 90000) (hs : ∀ t ∈ T, t.E.length ≤ 90000 ∧ t.D.length ≤ 90000) :
    Calls Try.prog 31 #[.slice f l c] w fun r w' => r = .returned (.bool (mayTs T)) ∧ Below w.heap.size w w' := by
  have HA := Lib.hid hA
  have HN := Lib.hid hn
  have HS := Lib.hid hs
  clear hA hn hs
  have htw : w.heap.size ≤ w.heap.size := Nat.le_refl _
  have B0 := Lib.hid (Below.refl w.heap.size w)
  go_enter Try.func31, Try.ntmps31
  have HMJ := Lib.hid (show mayTs (T.take 0) = true from rfl)
  go_wp2
  go_loopw [3] (fun i wr => ∃ (k : Nat), k ≤ l ∧ i = .int .i64 k ∧ Hid (Below w.heap.size w wr) ∧ Hid (mayTs (T.take (k)) = true)) (fun i _ => l - (intOf i).toNat)
  case atStart => exact ⟨0, by omega, rfl, B0.out, HMJ⟩
  case round =>
    clear B0 HMJ
    obtain ⟨k, hkk, rfl, Br, HMJ⟩ := hrel
    obtain ⟨mr, hmr⟩ : ∃ mr, mr = wr.heap.size := ⟨_, rfl⟩
    have hgwr : w.heap.size ≤ mr := by rw [hmr]; exact Br.out.size
    have hsr : mr ≤ wr.heap.size := by omega
    clear hmr
    by_cases hltk : k < l
    · have ik0k : (0 : Int) ≤ (k : Int) := by omega
      have ik1k : (k : Int) < (l : Int) := by omega
      have ikwk : IntKind.i64.wrap ((k : Int) + 1) = (k : Int) + 1 := IntWalk.i64_in _ (by omega)
      obtain ⟨xh, xt, b, o, xhh, xht, rfl, xr0, xa0⟩ := HA.out.get HN.out hltk
      have HRXT := Lib.hid (show RowAt w b (o + k * 2) 2 #[.slice xh.f xh.l xh.c, .slice xh.g xh.m xh.d] from xr0)
      have hb : b < w.heap.size := xr0.lt
      have HAx := Lib.hid xa0
      have HHx := Lib.hid xhh
      have HTx := Lib.hid xht
      clear xr0 xa0 xhh xht
      have HM := Lib.hid (fun W (hB : Below w.heap.size w W) => mayT_any xh.f xh.g xh.l xh.c xh.m xh.d xt.E xt.D W (HAx.out.rE.below hB) HAx.out.lE (HAx.out.rD.below hB) HAx.out.lD (by have := HAx.out.lE; have := (HS.out xt (List.mem_of_getElem? HTx.out)).1; omega) (by have := HAx.out.lD; have := (HS.out xt (List.mem_of_getElem? HTx.out)).2; omega))
      have HNO := Lib.hid (fun h => mayTs_no HTx.out h)
      have HNX := Lib.hid (fun h => mayTs_next HTx.out h HMJ.out)
      generalize mayT xt.E xt.D = o1 at *
      clear HMJ
      have yXT := (HRXT.out.below Br.out)
      have yXT0 := yXT.get0 (.slice xh.f xh.l xh.c) (by decide) rfl
      have yXT1 := yXT.get 1 (.slice xh.g xh.m xh.d) (by decide) rfl
      clear yXT
      go_wp2_with fail
      refine (HM.out _ Br.out).mono ?_
      rintro e w1 ⟨rfl, hb1⟩
      have hz1 := hb1.size
      have B1 := Lib.hid ((bel_trans Br.out hb1))
      skip
      have hs1 : mr ≤ w1.heap.size := by omega
      clear yXT0 yXT1
      clear Br hsr hb1 hz1
      cases o1
      · have HR := Lib.hid (show false = mayTs T from (HNO.out (by first | trivial | rfl)).symm)
        go_wp2
        go_ret
        exact ⟨ret_bool HR.out, B1.out⟩
      have HMJ := Lib.hid (HNX.out (by first | trivial | rfl))
      go_wp2
      go_roundw
      case rel => exact ⟨k + 1, by omega, by go_num, B1.out, HMJ⟩
      case measure => simp [intOf] <;> omega
    · have HR := Lib.hid (show true = mayTs T from by have h := HMJ.out; rw [List.take_of_length_le (by have := HN.out; omega)] at h; exact h.symm)
      go_wp2
      go_ret
      exact ⟨ret_bool HR.out, Br.out⟩
end
section
open Go.ChangeShapes Go.WideShapes Go.ChangeAt Go.RowKit Go.Deep Go.Shelf

theorem apart_row {h : Tlh} {B : Nat} (hl : (∀ k, h.eB = some k → k < B) ∧ (∀ k, h.dB = some k → k < B)) {row : Option Nat} (hr : ∀ k, row = some k → B ≤ k) : (h.eB = none ∨ h.eB ≠ row) ∧ (h.dB = none ∨ h.dB ≠ row) := by
  refine ⟨?_, ?_⟩
  · cases hk : h.eB with
    | none => exact .inl rfl
    | some b =>
      right
      intro he
      have := hl.1 b hk
      have := hr b he.symm
      omega
  · cases hk : h.dB with
    | none => exact .inl rfl
    | some b =>
      right
      intro he
      have := hl.2 b hk
      have := hr b he.symm
      omega
theorem mkT (w : World) (n : Nat) (h : n ≤ 90000) : ∃ W2, (Instr.makeSlice 22 (.int .i64 0) (.int .i64 (n : Int))).run Try.prog w = .ok (.slice (some ⟨w.heap.size, 0, none⟩) 0 n) W2 ∧ OwnR KT W2 w.heap.size (.slice (some ⟨w.heap.size, 0, none⟩) 0 n) [] ∧ Below w.heap.size w W2 := by
  obtain ⟨i0, hi, hz0, hz1, hz2⟩ := info_parts KT.info
  obtain ⟨W2, h1, h2, h3⟩ := run_make_own (P := Try.prog) w w.heap.size KT.ts KT.t i0 KT.z KT.N KT.under hi hz0 hz1 .i64 .i64 n (by rw [hz2]; show 48 * n ≤ _; omega) (by unfold maxLen; omega) (Nat.le_refl _)
  exact ⟨W2, h1, h2, ⟨h3.os, h3.tape, h3.output, h3.size, fun k hk => h3.block k hk (by simp)⟩⟩
theorem OwnR.first {Q : Type} {K : RowK Q} {w : World} {base n c : Nat} {f : Option Addr} {L : List Q} (h : OwnR K w base (.slice f n c) L) (h0 : 0 < n) : ∃ g, f = some ⟨g, 0, none⟩ ∧ base ≤ g := by
  rcases h.2 with ⟨he, hz⟩ | ⟨g, cap, cur, he, hb, hg, hnc, hm, hs, ht⟩
  · simp only [Value.slice.injEq] at he
    omega
  · simp only [Value.slice.injEq] at he
    exact ⟨g, he.1, hb⟩
theorem mayT_due {E : List Ety} {D : List Inv} (h : mayT E D = true) : allV D = true := by
  unfold mayT at h
  simp only [Bool.and_eq_true] at h
  exact h.2.1
theorem OwnR.frozenR {Q : Type} {K : RowK Q} {w : World} {base g n c : Nat} {L : List Q} (h : OwnR K w base (.slice (some ⟨g, 0, none⟩) n c) L) (j : Nat) : w.frozen? ⟨g, j, none⟩ = false := by
  obtain rfl := h.rows.1
  exact World.ownsRow.frozenAt h j
theorem map_get {T : List Tlx} {D : List Inv} {k : Nat} {t : Tlx} (h : T[k]? = some t) : (T.map (keepT D))[k]? = some (keepT D t) := by rw [List.getElem?_map, h]; rfl
set_option maxRecDepth 100000 in
set_option maxHeartbeats 3200000 in
theorem settled_any (f : Option Addr) (l c j : Nat) (H : List Tlh) (T : List Tlx) (jt : Tlx) (w : World) (hA : TlsAt w f H T) (hn : l = T.length) (hl : l ≤ 90000) (hs : ∀ t ∈ T, t.E.length ≤ 90000 ∧ t.D.length ≤ 90000) (hm : mayTs T = true) (hltj : j < l) (hjt : T[j]? = some jt) :
    Calls Try.prog 54 #[.slice f l c, .int .i64 j] w (EndTs w (waitT T j jt)) := by
  unfold EndTs
  have HA := Lib.hid hA
  have HN := Lib.hid hn
  have HS := Lib.hid hs
  have HMT := Lib.hid hm
  have HJV := Lib.hid (show allV jt.D = true from mayT_due (mayTs_mem hm (List.mem_of_getElem? hjt)))
  clear hA hn hs hm
  obtain ⟨jh, jt', b, o, jhh, jht, rfl, jr0, ja0⟩ := HA.out.get HN.out hltj
  obtain rfl : jt = jt' := by rw [hjt] at jht; exact Option.some.inj jht
  have HRJT := Lib.hid (show RowAt w b (o + j * 2) 2 #[.slice jh.f jh.l jh.c, .slice jh.g jh.m jh.d] from jr0)
  have hb : b < w.heap.size := jr0.lt
  have HAj := Lib.hid ja0
  have HTj := Lib.hid hjt
  clear jr0 ja0 jhh jht hjt
  have ij0 : (0 : Int) ≤ (j : Int) := by omega
  have ij1 : (j : Int) < (l : Int) := by omega
  obtain ⟨W2, hrun, lM, bM⟩ := mkT w l (by omega)
  have LM := Lib.hid lM
  have BM := Lib.hid bM
  have XM := Lib.hid (show OwnTs W2 w.heap.size [] ((T.map (keepT jt.D)).take 0) from OwnTs.nil _ _)
  have hsM : w.heap.size ≤ W2.heap.size := bM.size
  clear lM bM
  have htw : w.heap.size ≤ w.heap.size := Nat.le_refl _
  have B0 := Lib.hid (Below.refl w.heap.size w)
  go_enter Try.func54, Try.ntmps54
  have yJT := (HRJT.out.below B0.out)
  have yJT1 := yJT.get 1 (.slice jh.g jh.m jh.d) (by decide) rfl
  clear yJT
  go_wp2
  clear yJT1
  clear hrun
  go_wp2
  go_loopw [20, 6] (fun i i0 wr => ∃ (k : Nat) (xf : Option Addr) (xc : Nat) (xH : List Tlh), k ≤ l ∧ i = .int .i64 k ∧ i0 = .slice xf k xc ∧ Hid (Below w.heap.size w wr) ∧ Hid (OwnR KT wr (w.heap.size) (.slice xf k xc) (xH)) ∧ Hid (OwnTs wr (w.heap.size) (xH) ((T.map (keepT jt.D)).take k))) (fun i _ _ => l - (intOf i).toNat)
  case atStart => exact ⟨0, some ⟨w.heap.size, 0, none⟩, l, [], by omega, rfl, rfl, BM.out, LM.out, XM.out⟩
  case round =>
    clear LM XM BM
    obtain ⟨k, xf, xc, xH, hkk, rfl, rfl, Br, Lr, Xr⟩ := hrel
    obtain ⟨mr, hmr⟩ : ∃ mr, mr = wr.heap.size := ⟨_, rfl⟩
    have hgwr : w.heap.size ≤ mr := by rw [hmr]; exact Br.out.size
    have HBLr := Lib.hid (show ∀ jB, (.slice xf k xc : Value).ownBlock = some jB → jB < mr from by rw [hmr]; exact Lr.out.blt)
    have HBXr := Lib.hid (show ∀ hB ∈ xH, (∀ jB, hB.eB = some jB → jB < mr) ∧ (∀ jB, hB.dB = some jB → jB < mr) from by rw [hmr]; exact Xr.out.blt)
    have hsr : mr ≤ wr.heap.size := by omega
    clear hmr
    by_cases hltk : k < l
    · have ik0k : (0 : Int) ≤ (k : Int) := by omega
      have ik1k : (k : Int) < (l : Int) := by omega
      have ikwk : IntKind.i64.wrap ((k : Int) + 1) = (k : Int) + 1 := IntWalk.i64_in _ (by omega)
      obtain ⟨xh, xt, b9, o9, xhh, xht, xf9, xr0, xa0⟩ := HA.out.get HN.out hltk
      simp only [Option.some.injEq, Addr.mk.injEq, and_true] at xf9
      obtain ⟨xf8, xf7⟩ := xf9
      subst xf8 xf7
      have HRXT := Lib.hid (show RowAt w b (o + k * 2) 2 #[.slice xh.f xh.l xh.c, .slice xh.g xh.m xh.d] from xr0)
      have HAx := Lib.hid xa0
      have HHx := Lib.hid xhh
      have HTx := Lib.hid xht
      clear xr0 xa0 xhh xht
      have HXL := Lib.hid Lr.out.rows.1
      have yXT := (HRXT.out.below Br.out)
      have yXT0 := yXT.get0 (.slice xh.f xh.l xh.c) (by decide) rfl
      have yXT1 := yXT.get 1 (.slice xh.g xh.m xh.d) (by decide) rfl
      clear yXT
      go_upto_region 6 with fail
      clear yXT0 yXT1
      have S1 := Lib.hid ((BoxAt.newAt (wr) #[.slice xh.f xh.l xh.c, .slice xh.g xh.m xh.d] 43 (wr.heap.size) (by first | omega | (simp; done) | (simp; omega))))
      have L1 := Lib.hid ((Lr.out.alloc (.cells #[.slice xh.f xh.l xh.c, .slice xh.g xh.m xh.d] 43)))
      have X1 := Lib.hid ((Xr.out.alloc (.cells #[.slice xh.f xh.l xh.c, .slice xh.g xh.m xh.d] 43)))
      have B1 := Lib.hid ((bel_alloc Br.out (.cells #[.slice xh.f xh.l xh.c, .slice xh.g xh.m xh.d] 43)))
      obtain ⟨g1, hg1⟩ : ∃ g1, g1 = wr.heap.size := ⟨_, rfl⟩
      obtain ⟨W1, hW1⟩ : ∃ W1, W1 = (wr).alloc (.cells #[.slice xh.f xh.l xh.c, .slice xh.g xh.m xh.d] 43) := ⟨_, rfl⟩
      have hs1 : g1 + 1 ≤ W1.heap.size := by rw [hW1, hg1]; simp
      rw [← hW1] at S1 L1 X1 B1 ⊢
      have hb1 : mr ≤ g1 := by omega
      rw [← hg1] at S1 ⊢
      clear hg1
      clear hW1 Lr Xr Br hsr
      have Sc0 := S1.out.get 0 (.slice xh.f xh.l xh.c) rfl
      have Sc1 := S1.out.get 1 (.slice xh.g xh.m xh.d) rfl
      go_wp2_with fail
      refine (draft_any xh.f xh.g xh.l xh.c xh.m xh.d xt.E xt.D _ (HAx.out.rE.below B1.out) HAx.out.lE (HAx.out.rD.below B1.out) HAx.out.lD (by have := HAx.out.lE; have := (HS.out xt (List.mem_of_getElem? HTx.out)).1; omega) (by have := HAx.out.lD; have := (HS.out xt (List.mem_of_getElem? HTx.out)).2; omega) HAx.out.cE.2.2 HAx.out.cD.2.2).mono ?_
      rintro e w2 hE2
      unfold EndT at hE2
      obtain ⟨f2, c2, g2, d2, rfl, hEE2, hDD2, hb2⟩ := hE2
      have OE2 := Lib.hid (OwnR.mono hEE2 (base' := mr) (by first | omega | (simp; done) | (simp; omega)))
      have OD2 := Lib.hid (OwnR.mono hDD2 (base' := mr) (by first | omega | (simp; done) | (simp; omega)))
      clear hEE2 hDD2
      have hz2 := hb2.size
      have S2 := Lib.hid (S1.out.below hb2)
      have L2 := Lib.hid (L1.out.below hb2)
      have X2 := Lib.hid (X1.out.below hb2)
      have B2 := Lib.hid ((bel_trans B1.out hb2))
      skip
      have hs2 : g1 + 1 ≤ w2.heap.size := by omega
      clear Sc0 Sc1
      clear S1 L1 X1 B1 hs1 hb2 hz2
      go_upto_region 7 with fail
      have S3 := Lib.hid ((S2.out.alloc (.cells #[.slice f2 xt.E.length c2, .slice g2 xt.D.length d2] 73)))
      have A3 := Lib.hid ((BoxAt.newAt (w2) #[.slice f2 xt.E.length c2, .slice g2 xt.D.length d2] 73 (w2.heap.size) (by first | omega | (simp; done) | (simp; omega))))
      have L3 := Lib.hid ((L2.out.alloc (.cells #[.slice f2 xt.E.length c2, .slice g2 xt.D.length d2] 73)))
      have X3 := Lib.hid ((X2.out.alloc (.cells #[.slice f2 xt.E.length c2, .slice g2 xt.D.length d2] 73)))
      have E3 := Lib.hid ((OE2.out.alloc (.cells #[.slice f2 xt.E.length c2, .slice g2 xt.D.length d2] 73)))
      have D3 := Lib.hid ((OD2.out.alloc (.cells #[.slice f2 xt.E.length c2, .slice g2 xt.D.length d2] 73)))
      have B3 := Lib.hid ((bel_alloc B2.out (.cells #[.slice f2 xt.E.length c2, .slice g2 xt.D.length d2] 73)))
      obtain ⟨g3, hg3⟩ : ∃ g3, g3 = w2.heap.size := ⟨_, rfl⟩
      obtain ⟨W3, hW3⟩ : ∃ W3, W3 = (w2).alloc (.cells #[.slice f2 xt.E.length c2, .slice g2 xt.D.length d2] 73) := ⟨_, rfl⟩
      have hs3 : g3 + 1 ≤ W3.heap.size := by rw [hW3, hg3]; simp
      rw [← hW3] at S3 A3 L3 X3 E3 D3 B3 ⊢
      have hb3 : g1 + 1 ≤ g3 := by omega
      rw [← hg3] at A3 ⊢
      clear hg3
      clear hW3 S2 L2 X2 OE2 OD2 B2 hs2
      go_wp2_with fail
      refine (forget_any f2 g2 jh.g xt.E.length c2 xt.D.length d2 jh.m jh.d (g3) mr xt.E jt.D _ A3.out E3.out (by have := (HS.out xt (List.mem_of_getElem? HTx.out)).1; omega) (by first | omega | (simp; done) | (simp; omega)) (fun k x hx => mayT_may (mayTs_mem HMT.out (List.mem_of_getElem? HTx.out)) x (List.mem_of_getElem? hx)) HJV.out HAj.out.lD (by have := HAj.out.lD; have := (HS.out jt (List.mem_of_getElem? HTj.out)).2; omega) (fun W9 hB9 => HAj.out.rD.below (B3.out.trans (hB9.mono hgwr)))).mono ?_
      rintro e w4 hp4
      unfold EndG at hp4
      obtain ⟨n4, v4, rfl, hn4, hO4, hg4, rfl⟩ := hp4
      have HN4 := Lib.hid hn4
      clear hn4
      have hz4 := hg4.size
      go_upto_region 8 with fail
      have S5 := Lib.hid (((S3.out.grown hg4 (E3.out.ne_box S3.out (by decide))).other ⟨g3, 0, none⟩ (.slice f2 n4 c2) (show g1 ≠ g3 by omega)))
      have A5 := Lib.hid (((A3.out.grown hg4 (E3.out.ne_box A3.out (by decide))).set 0 (.slice f2 n4 c2) #[.slice f2 n4 c2, .slice g2 xt.D.length d2] rfl))
      have L5 := Lib.hid (((L3.out.grownO E3.out (by decide) hg4).otherN ⟨g3, 0, none⟩ (.slice f2 n4 c2) ((L3.out.grownO E3.out (by decide) hg4).ne_box (A3.out.grown hg4 (E3.out.ne_box A3.out (by decide))) (by decide))))
      have X5 := Lib.hid (((X3.out.kept hg4 (fun hB hm => apart_row (HBXr.out hB hm) (E3.out).blk)).otherN ⟨g3, 0, none⟩ (.slice f2 n4 c2) ((X3.out.kept hg4 (fun hB hm => apart_row (HBXr.out hB hm) (E3.out).blk)).ne_box (A3.out.grown hg4 (E3.out.ne_box A3.out (by decide))) (by decide))))
      have E5 := Lib.hid ((hO4.otherN ⟨g3, 0, none⟩ (.slice f2 n4 c2) (hO4.ne_box (A3.out.grown hg4 (E3.out.ne_box A3.out (by decide))) (by decide))))
      have D5 := Lib.hid (((D3.out.grownO E3.out (by decide) hg4).otherN ⟨g3, 0, none⟩ (.slice f2 n4 c2) ((D3.out.grownO E3.out (by decide) hg4).ne_box (A3.out.grown hg4 (E3.out.ne_box A3.out (by decide))) (by decide))))
      have B5 := Lib.hid ((Below.setCell (B3.out.grown hg4 (by first | omega | (simp; omega)) (fun k hk => Nat.le_trans (show w.heap.size ≤ mr by omega) (E3.out.blk k hk))) (p := ⟨g3, 0, none⟩) (show w.heap.size ≤ g3 by omega) (.slice f2 n4 c2)))
      obtain ⟨W5, hW5⟩ : ∃ W5, W5 = (v4).setCell ⟨g3, 0, none⟩ (.slice f2 n4 c2) := ⟨_, rfl⟩
      have hs5 : g3 + 1 ≤ W5.heap.size := by rw [hW5]; first | (simp [World.setCell]; omega) | (simp [World.setCell, World.setRow]; omega) | exact hs3
      rw [← hW5] at S5 A5 L5 X5 E5 D5 B5 ⊢
      clear hW5 S3 A3 L3 X3 E3 D3 B3 hs3
      have Ac0 := A5.out.get 0 (.slice f2 n4 c2) rfl
      have Ac1 := A5.out.get 1 (.slice g2 xt.D.length d2) rfl
      go_upto_region 9 with (at_builtin; refine wpList_pushN (K := KT) rfl _ _ rfl w.heap.size _ xH k HXL.out rfl (L5.out.alloc (.cells #[.slice f2 n4 c2, .slice g2 xt.D.length d2] 43)) (W5.heap.size) 1 (⟨f2, n4, c2, g2, xt.D.length, d2⟩ : Tlh) rfl (fun i _ => ((BoxAt.newAt (W5) #[.slice f2 n4 c2, .slice g2 xt.D.length d2] 43 (W5.heap.size) (by first | omega | (simp; done) | (simp; omega)))).cell i) (by omega) (by first | omega | (simp; omega)) ?_; intro f6a c6a w6 hO6 hg6; clear S5; clear Ac0 Ac1; have hz6 := hg6.size; try simp at hz6; have A6 := Lib.hid ((A5.out.alloc (.cells #[.slice f2 n4 c2, .slice g2 xt.D.length d2] 43)).grown hg6 ((L5.out.alloc (.cells #[.slice f2 n4 c2, .slice g2 xt.D.length d2] 43)).ne_box (A5.out.alloc (.cells #[.slice f2 n4 c2, .slice g2 xt.D.length d2] 43)) (by decide))); have L6 := Lib.hid (hO6); have X6o := Lib.hid ((X5.out.alloc (.cells #[.slice f2 n4 c2, .slice g2 xt.D.length d2] 43)).grownO (L5.out.alloc (.cells #[.slice f2 n4 c2, .slice g2 xt.D.length d2] 43)) (by decide) hg6); have E6o := Lib.hid ((E5.out.alloc (.cells #[.slice f2 n4 c2, .slice g2 xt.D.length d2] 43)).grownO (L5.out.alloc (.cells #[.slice f2 n4 c2, .slice g2 xt.D.length d2] 43)) (by decide) hg6); have D6o := Lib.hid ((D5.out.alloc (.cells #[.slice f2 n4 c2, .slice g2 xt.D.length d2] 43)).grownO (L5.out.alloc (.cells #[.slice f2 n4 c2, .slice g2 xt.D.length d2] 43)) (by decide) hg6); have B6 := Lib.hid ((bel_alloc B5.out (.cells #[.slice f2 n4 c2, .slice g2 xt.D.length d2] 43)).grown hg6 (show w.heap.size ≤ _ by first | omega | (simp; omega)) (fun k hk => Nat.le_trans (show w.heap.size ≤ w.heap.size by omega) ((L5.out.alloc (.cells #[.slice f2 n4 c2, .slice g2 xt.D.length d2] 43)).blk k hk))); have hs6 : g3 + 1 ≤ w6.heap.size := (by omega); clear A5 L5 X5 E5 D5 B5 hg6 hO6 hz6 hs5)
      go_wp2
      have FN := Lib.hid (show OwnTs _ w.heap.size (xH ++ [(⟨f2, n4, c2, g2, xt.D.length, d2⟩ : Tlh)]) ((T.map (keepT jt.D)).take (k + 1)) from by rw [take_one (map_get HTx.out)]; exact X6o.out.push (h := (⟨f2, n4, c2, g2, xt.D.length, d2⟩ : Tlh)) (t := keepT jt.D xt) ⟨E6o.out, D6o.out⟩ (by omega) HBXr.out)
      go_roundw
      case rel => exact ⟨k + 1, f6a, c6a, (xH ++ [(⟨f2, n4, c2, g2, xt.D.length, d2⟩ : Tlh)]), by omega, by go_num, rfl, B6.out, L6.out, FN.out⟩
      case measure => simp [intOf] <;> omega
    · have hkl : k = l := by omega
      subst hkl
      have HTK := Lib.hid (show (T.map (keepT jt.D)).take k = T.map (keepT jt.D) from List.take_of_length_le (by rw [List.length_map]; have := HN.out; omega))
      obtain ⟨gL, rfl, hgL⟩ := (Lr.out).first (by omega)
      obtain ⟨jH, hjH⟩ : ∃ q, xH[j]? = some q := ⟨_, List.getElem?_eq_getElem (by have := (Lr.out).rows.1; omega)⟩
      have rL := (Lr.out).rows.2 j jH hjH
      obtain ⟨bL, oL, hfL, hrL⟩ := rL
      simp only [Option.some.injEq, Addr.mk.injEq, and_true] at hfL
      obtain ⟨rfl, rfl⟩ := hfL
      have cL := hrL.get 1 (.slice jH.g jH.m jH.d) (by decide) rfl
      have zL := (Lr.out).frozenR (j * 2 + 1)
      have iL0 : (0 : Int) ≤ (j : Int) := by omega
      have iL1 : (j : Int) < (k : Int) := by omega
      have e0 : 0 + j * KT.N + 1 = j * 2 + 1 := by show 0 + j * 2 + 1 = _; omega
      rw [e0] at cL
      clear hrL e0
      go_wp2
      go_ret
      refine ⟨some ⟨gL, 0, none⟩, xc, _, by rw [waitT_len, ← HN.out]; rfl, by rw [waitT_len, ← HN.out]; exact (Lr.out).setD j jH hjH, ?_, Below.setCell Br.out (p := ⟨gL, j * 2 + 1, none⟩) hgL (.slice none 0 0)⟩
      have x9 := Xr.out
      rw [HTK.out] at x9
      exact x9.setD (Lr.out) (j * 2 + 1) j jH (keepT jt.D jt) hjH (map_get HTj.out)
theorem has_any (a : Option Addr) (l c : Nat) (cpu : Int) (w : World) :
    Calls Try.prog 53 #[.slice a l c, .int .i64 cpu] w fun e w' => e = .returned (.bool (decide (0 ≤ cpu ∧ cpu < (l : Int)))) ∧ w = w' := by
  go_enter Try.func53, Try.ntmps53
  go_wp2
  all_goals
    go_ret
    refine ⟨ret_bool ?_, rfl⟩
    rw [Bool.eq_iff_iff]
    simp
    omega
set_option maxRecDepth 100000 in
theorem inwait_yes (f : Option Addr) (l c j : Nat) (H : List Tlh) (T : List Tlx) (jt : Tlx) (w : World) (hA : TlsAt w f H T) (hn : l = T.length) (hl : l ≤ 90000) (hs : ∀ t ∈ T, t.E.length ≤ 90000 ∧ t.D.length ≤ 90000) (hm : mayTs T = true) (hltj : j < l) (hjt : T[j]? = some jt) :
    Calls Try.prog 30 #[.slice f l c, .int .i64 j] w fun r w' => ∃ f' c' H', r = .returned (.tuple #[.slice f' l c', .int .i64 0]) ∧ OwnR KT w' w.heap.size (.slice f' l c') H' ∧ OwnTs w' w.heap.size H' (waitT T j jt) ∧ Below w.heap.size w w' := by
  have HM := Lib.hid (crewmay_any f l c H T w hA hn hl hs)
  rw [hm] at HM
  have HS := Lib.hid (fun W (hB : Below w.heap.size w W) => settled_any f l c j H T jt W (hA.below hB) hn hl hs hm hltj hjt)
  have HH := Lib.hid (fun W => has_any f l c (j : Int) W)
  rw [decide_eq_true (show 0 ≤ (j : Int) ∧ (j : Int) < (l : Int) by omega)] at HH
  unfold EndTs at HS
  rw [waitT_len, ← hn] at HS
  clear hA hs hm hjt hn
  go_enter Try.func30, Try.ntmps30
  go_wp2_with fail
  refine HM.out.mono ?_
  rintro e w1 ⟨rfl, hb1⟩
  have HB1 := Lib.hid hb1
  clear hb1
  go_wp2_with fail
  refine (HH.out _).mono ?_
  rintro e w2 ⟨rfl, rfl⟩
  go_wp2_with fail
  refine (HS.out _ HB1.out).mono ?_
  rintro e w3 ⟨f', c', H', rfl, h1, h2, h3⟩
  have K1 := Lib.hid h1
  have K2 := Lib.hid h2
  have K3 := Lib.hid h3
  clear h1 h2 h3
  go_wp2
  go_ret2
  exact ⟨f', c', H', rfl, K1.out.mono HB1.out.size, K2.out.mono HB1.out.size, bel_trans HB1.out K3.out⟩
set_option maxRecDepth 100000 in
theorem inwait_no (f : Option Addr) (l c : Nat) (cpu : Int) (H : List Tlh) (T : List Tlx) (w : World) (hA : TlsAt w f H T) (hn : l = T.length) (hl : l ≤ 90000) (hs : ∀ t ∈ T, t.E.length ≤ 90000 ∧ t.D.length ≤ 90000) (hno : (mayTs T && decide (0 ≤ cpu ∧ cpu < (l : Int))) = false) :
    Calls Try.prog 30 #[.slice f l c, .int .i64 cpu] w fun r w' => r = .returned (.tuple #[.slice none 0 0, .int .i64 1]) ∧ Below w.heap.size w w' := by
  have HM := Lib.hid (crewmay_any f l c H T w hA hn hl hs)
  have HH := Lib.hid (fun W => has_any f l c cpu W)
  clear hA hs hn
  cases hm : mayTs T
  · rw [hm] at HM
    clear hno
    go_enter Try.func30, Try.ntmps30
    go_wp2_with fail
    refine HM.out.mono ?_
    rintro e w1 ⟨rfl, hb1⟩
    have HB1 := Lib.hid hb1
    clear hb1
    go_wp2
    go_ret2
    exact ⟨rfl, HB1.out⟩
  · rw [hm, Bool.true_and] at hno
    rw [hm] at HM
    rw [hno] at HH
    clear hno
    go_enter Try.func30, Try.ntmps30
    go_wp2_with fail
    refine HM.out.mono ?_
    rintro e w1 ⟨rfl, hb1⟩
    have HB1 := Lib.hid hb1
    clear hb1
    go_wp2_with fail
    refine (HH.out _).mono ?_
    rintro e w2 ⟨rfl, rfl⟩
    go_wp2
    go_ret2
    exact ⟨rfl, HB1.out⟩
end
section
open Go.ChangeShapes Go.WideShapes Go.ChangeAt Go.RowKit Go.Deep Go.Shelf

set_option maxRecDepth 100000 in
set_option maxHeartbeats 3200000 in
theorem wait9_any (f : Option Addr) (l c j : Nat) (H : List Tlh) (T : List Tlx) (jt : Tlx) (w : World) (hA : TlsAt w f H T) (hn : l = T.length) (hl : l ≤ 90000) (hs : ∀ t ∈ T, t.E.length ≤ 90000 ∧ t.D.length ≤ 90000) (hm : mayTs T = true) (hltj : j < l) (hjt : T[j]? = some jt) :
    Calls Try.prog 33 #[.slice f l c, .int .i64 j] w (EndTs w (waitT T j jt)) := by
  unfold EndTs
  have HA := Lib.hid hA
  have HN := Lib.hid hn
  have HS := Lib.hid hs
  have HMT := Lib.hid hm
  have HJV := Lib.hid (show allV jt.D = true from mayT_due (mayTs_mem hm (List.mem_of_getElem? hjt)))
  clear hA hn hs hm
  obtain ⟨jh, jt', b, o, jhh, jht, rfl, jr0, ja0⟩ := HA.out.get HN.out hltj
  obtain rfl : jt = jt' := by rw [hjt] at jht; exact Option.some.inj jht
  have HRJT := Lib.hid (show RowAt w b (o + j * 2) 2 #[.slice jh.f jh.l jh.c, .slice jh.g jh.m jh.d] from jr0)
  have hb : b < w.heap.size := jr0.lt
  have HAj := Lib.hid ja0
  have HTj := Lib.hid hjt
  clear jr0 ja0 jhh jht hjt
  have ij0 : (0 : Int) ≤ (j : Int) := by omega
  have ij1 : (j : Int) < (l : Int) := by omega
  have LM := Lib.hid (show OwnR KT w w.heap.size (.slice none 0 0) [] from OwnR.nil _ _)
  have XM := Lib.hid (show OwnTs w w.heap.size [] ((T.map (keepT jt.D)).take 0) from OwnTs.nil _ _)
  have htw : w.heap.size ≤ w.heap.size := Nat.le_refl _
  have B0 := Lib.hid (Below.refl w.heap.size w)
  go_enter Try.func33, Try.ntmps33
  have yJT := (HRJT.out.below B0.out)
  have yJT1 := yJT.get 1 (.slice jh.g jh.m jh.d) (by decide) rfl
  clear yJT
  go_wp2
  clear yJT1
  go_wp2
  go_loopw [7, 6] (fun i i0 wr => ∃ (k : Nat) (xf : Option Addr) (xc : Nat) (xH : List Tlh), k ≤ l ∧ i = .int .i64 k ∧ i0 = .slice xf k xc ∧ Hid (Below w.heap.size w wr) ∧ Hid (OwnR KT wr (w.heap.size) (.slice xf k xc) (xH)) ∧ Hid (OwnTs wr (w.heap.size) (xH) ((T.map (keepT jt.D)).take k))) (fun i _ _ => l - (intOf i).toNat)
  case atStart => exact ⟨0, none, 0, [], by omega, rfl, rfl, B0.out, LM.out, XM.out⟩
  case round =>
    clear LM XM B0
    obtain ⟨k, xf, xc, xH, hkk, rfl, rfl, Br, Lr, Xr⟩ := hrel
    obtain ⟨mr, hmr⟩ : ∃ mr, mr = wr.heap.size := ⟨_, rfl⟩
    have hgwr : w.heap.size ≤ mr := by rw [hmr]; exact Br.out.size
    have HBLr := Lib.hid (show ∀ jB, (.slice xf k xc : Value).ownBlock = some jB → jB < mr from by rw [hmr]; exact Lr.out.blt)
    have HBXr := Lib.hid (show ∀ hB ∈ xH, (∀ jB, hB.eB = some jB → jB < mr) ∧ (∀ jB, hB.dB = some jB → jB < mr) from by rw [hmr]; exact Xr.out.blt)
    have hsr : mr ≤ wr.heap.size := by omega
    clear hmr
    by_cases hltk : k < l
    · have ik0k : (0 : Int) ≤ (k : Int) := by omega
      have ik1k : (k : Int) < (l : Int) := by omega
      have ikwk : IntKind.i64.wrap ((k : Int) + 1) = (k : Int) + 1 := IntWalk.i64_in _ (by omega)
      obtain ⟨xh, xt, b9, o9, xhh, xht, xf9, xr0, xa0⟩ := HA.out.get HN.out hltk
      simp only [Option.some.injEq, Addr.mk.injEq, and_true] at xf9
      obtain ⟨xf8, xf7⟩ := xf9
      subst xf8 xf7
      have HRXT := Lib.hid (show RowAt w b (o + k * 2) 2 #[.slice xh.f xh.l xh.c, .slice xh.g xh.m xh.d] from xr0)
      have HAx := Lib.hid xa0
      have HHx := Lib.hid xhh
      have HTx := Lib.hid xht
      clear xr0 xa0 xhh xht
      have HXL := Lib.hid Lr.out.rows.1
      have yXT := (HRXT.out.below Br.out)
      have yXT0 := yXT.get0 (.slice xh.f xh.l xh.c) (by decide) rfl
      have yXT1 := yXT.get 1 (.slice xh.g xh.m xh.d) (by decide) rfl
      clear yXT
      go_wp2_with fail
      refine (apply9_any xh.f xh.g jh.g xh.l xh.c xh.m xh.d jh.m jh.d xt.E xt.D jt.D _ (HAx.out.rE.below Br.out) HAx.out.lE (HAx.out.rD.below Br.out) HAx.out.lD (by have := HAx.out.lE; have := (HS.out xt (List.mem_of_getElem? HTx.out)).1; omega) (by have := HAx.out.lD; have := (HS.out xt (List.mem_of_getElem? HTx.out)).2; omega) (HAj.out.rD.below Br.out) HAj.out.lD (by have := HAj.out.lD; have := (HS.out jt (List.mem_of_getElem? HTj.out)).2; omega) (fun k x hx => mayT_may (mayTs_mem HMT.out (List.mem_of_getElem? HTx.out)) x (List.mem_of_getElem? hx)) HJV.out).mono ?_
      rintro e w1 ⟨f1, n1, c1, g1, d1, rfl, hn1, hEE1, hDD1, hb1⟩
      clear hn1
      have OE1 := Lib.hid (OwnR.mono hEE1 (base' := mr) (by first | omega | (simp; done) | (simp; omega)))
      have OD1 := Lib.hid (OwnR.mono hDD1 (base' := mr) (by first | omega | (simp; done) | (simp; omega)))
      clear hEE1 hDD1
      have hz1 := hb1.size
      have L1 := Lib.hid (Lr.out.below hb1)
      have X1 := Lib.hid (Xr.out.below hb1)
      have B1 := Lib.hid ((bel_trans Br.out hb1))
      skip
      have hs1 : mr ≤ w1.heap.size := by omega
      clear yXT0 yXT1
      clear Lr Xr Br hsr hb1 hz1
      go_upto_region 5 with (at_builtin; refine wpList_pushN (K := KT) rfl _ _ rfl w.heap.size _ xH k HXL.out rfl (L1.out.alloc (.cells #[.slice f1 n1 c1, .slice g1 xh.m d1] 43)) (w1.heap.size) 1 (⟨f1, n1, c1, g1, xh.m, d1⟩ : Tlh) rfl (fun i _ => ((BoxAt.newAt (w1) #[.slice f1 n1 c1, .slice g1 xh.m d1] 43 (w1.heap.size) (by first | omega | (simp; done) | (simp; omega)))).cell i) (by omega) (by first | omega | (simp; omega)) ?_; intro f2a c2a w2 hO2 hg2; have hz2 := hg2.size; try simp at hz2; have L2 := Lib.hid (hO2); have X2o := Lib.hid ((X1.out.alloc (.cells #[.slice f1 n1 c1, .slice g1 xh.m d1] 43)).grownO (L1.out.alloc (.cells #[.slice f1 n1 c1, .slice g1 xh.m d1] 43)) (by decide) hg2); have E2o := Lib.hid ((OE1.out.alloc (.cells #[.slice f1 n1 c1, .slice g1 xh.m d1] 43)).grownO (L1.out.alloc (.cells #[.slice f1 n1 c1, .slice g1 xh.m d1] 43)) (by decide) hg2); have D2o := Lib.hid ((OD1.out.alloc (.cells #[.slice f1 n1 c1, .slice g1 xh.m d1] 43)).grownO (L1.out.alloc (.cells #[.slice f1 n1 c1, .slice g1 xh.m d1] 43)) (by decide) hg2); have B2 := Lib.hid ((bel_alloc B1.out (.cells #[.slice f1 n1 c1, .slice g1 xh.m d1] 43)).grown hg2 (show w.heap.size ≤ _ by first | omega | (simp; omega)) (fun k hk => Nat.le_trans (show w.heap.size ≤ w.heap.size by omega) ((L1.out.alloc (.cells #[.slice f1 n1 c1, .slice g1 xh.m d1] 43)).blk k hk))); have hs2 : mr ≤ w2.heap.size := (by omega); clear L1 X1 OE1 OD1 B1 hg2 hO2 hz2 hs1)
      go_wp2
      have FN := Lib.hid (show OwnTs _ w.heap.size (xH ++ [(⟨f1, n1, c1, g1, xh.m, d1⟩ : Tlh)]) ((T.map (keepT jt.D)).take (k + 1)) from by rw [take_one (map_get HTx.out)]; exact X2o.out.push (h := (⟨f1, n1, c1, g1, xh.m, d1⟩ : Tlh)) (t := keepT jt.D xt) ⟨E2o.out, D2o.out⟩ (by omega) HBXr.out)
      go_roundw
      case rel => exact ⟨k + 1, f2a, c2a, (xH ++ [(⟨f1, n1, c1, g1, xh.m, d1⟩ : Tlh)]), by omega, by go_num, rfl, B2.out, L2.out, FN.out⟩
      case measure => simp [intOf] <;> omega
    · have hkl : k = l := by omega
      subst hkl
      have HTK := Lib.hid (show (T.map (keepT jt.D)).take k = T.map (keepT jt.D) from List.take_of_length_le (by rw [List.length_map]; have := HN.out; omega))
      obtain ⟨gL, rfl, hgL⟩ := (Lr.out).first (by omega)
      obtain ⟨jH, hjH⟩ : ∃ q, xH[j]? = some q := ⟨_, List.getElem?_eq_getElem (by have := (Lr.out).rows.1; omega)⟩
      have rL := (Lr.out).rows.2 j jH hjH
      obtain ⟨bL, oL, hfL, hrL⟩ := rL
      simp only [Option.some.injEq, Addr.mk.injEq, and_true] at hfL
      obtain ⟨rfl, rfl⟩ := hfL
      have cL := hrL.get 1 (.slice jH.g jH.m jH.d) (by decide) rfl
      have zL := (Lr.out).frozenR (j * 2 + 1)
      have iL0 : (0 : Int) ≤ (j : Int) := by omega
      have iL1 : (j : Int) < (k : Int) := by omega
      have e0 : 0 + j * KT.N + 1 = j * 2 + 1 := by show 0 + j * 2 + 1 = _; omega
      rw [e0] at cL
      clear hrL e0
      go_wp2
      go_ret
      refine ⟨some ⟨gL, 0, none⟩, xc, _, by rw [waitT_len, ← HN.out]; rfl, by rw [waitT_len, ← HN.out]; exact (Lr.out).setD j jH hjH, ?_, Below.setCell Br.out (p := ⟨gL, j * 2 + 1, none⟩) hgL (.slice none 0 0)⟩
      have x9 := Xr.out
      rw [HTK.out] at x9
      exact x9.setD (Lr.out) (j * 2 + 1) j jH (keepT jt.D jt) hjH (map_get HTj.out)
end
section
open Go.ChangeShapes Go.WideShapes Go.ChangeAt Go.RowKit Go.Deep Go.Shelf

theorem OwnR.nil_any {Q : Type} {K : RowK Q} (w : World) (base : Nat) : OwnR K w base (.slice none 0 0) [] := OwnR.nil w base
theorem opt_ne {α : Type} {a b : Option α} (h : a = none ∨ a ≠ b) : a = none ∨ a ≠ b := h
/-- The k-th TLB's slices are written over: the others stay. -/
theorem OwnTs.spoil {w v w' : World} {base : Nat} {H : List Tlh} {T : List Tlx} {k : Nat} {h : Tlh} {t : Tlx} (a : OwnTs w base H T) (hh : H[k]? = some h) (ht : T[k]? = some t) (hg : w.grownBy v h.eB) (hg2 : v.grownBy w' h.dB) :
    OwnTs w' base (H.set k tlh0) (T.set k ⟨[], []⟩) := by
  have hil : k < H.length := (List.getElem?_eq_some_iff.1 hh).1
  have hjl : k < T.length := (List.getElem?_eq_some_iff.1 ht).1
  have ok := a.own k h t hh ht
  have cut : ∀ (i : Nat) (x : Tlh), (H.set k tlh0)[i]? = some x → (i ≠ k ∧ H[i]? = some x) ∨ (i = k ∧ x = tlh0) := by
    intro i x hx
    by_cases hki : i = k
    · subst hki
      rw [List.getElem?_set_self hil] at hx
      exact .inr ⟨rfl, (Option.some.inj hx).symm⟩
    · rw [List.getElem?_set_ne (fun e => hki e.symm)] at hx
      exact .inl ⟨hki, hx⟩
  have ne : ∀ {p q : Option Nat}, (∀ g, q = some g → p ≠ some g) → p = none ∨ p ≠ q := by
    intro p q hpq
    cases hp : p with
    | none => exact .inl rfl
    | some b =>
      right
      intro he
      exact hpq b he.symm hp
  refine ⟨by simp [a.len], ?_, ?_, ?_⟩
  · intro i x y hx hy
    rcases cut i x hx with ⟨hki, h1⟩ | ⟨rfl, rfl⟩
    · rw [List.getElem?_set_ne (fun e => hki e.symm)] at hy
      have o := a.own i x y h1 hy
      refine ⟨ownR_kept (ownR_kept o.oE hg (a.apE i k x h hki h1 hh)) hg2 (ne (o.oE.ne_own ok.oD (by decide))), ownR_kept (ownR_kept o.oD hg (ne (o.oD.ne_own ok.oE (by decide)))) hg2 (a.apD i k x h hki h1 hh)⟩
    · rw [List.getElem?_set_self hjl] at hy
      obtain rfl := Option.some.inj hy
      exact ⟨OwnR.nil _ _, OwnR.nil _ _⟩
  · intro i j x y hij hx hy
    rcases cut i x hx with ⟨h1, h2⟩ | ⟨rfl, rfl⟩
    · rcases cut j y hy with ⟨h3, h4⟩ | ⟨rfl, rfl⟩
      · exact a.apE i j x y hij h2 h4
      · cases hk : x.eB with
        | none => exact .inl rfl
        | some b => exact .inr (by intro e; cases e)
    · exact .inl rfl
  · intro i j x y hij hx hy
    rcases cut i x hx with ⟨h1, h2⟩ | ⟨rfl, rfl⟩
    · rcases cut j y hy with ⟨h3, h4⟩ | ⟨rfl, rfl⟩
      · exact a.apD i j x y hij h2 h4
      · cases hk : x.dB with
        | none => exact .inl rfl
        | some b => exact .inr (by intro e; cases e)
    · exact .inl rfl
theorem OwnTs.cellsN {base g : Nat} {H : List Tlh} {T : List Tlx} (hne : ∀ h ∈ H, h.eB ≠ some g ∧ h.dB ≠ some g) : ∀ (vs : List Value) (o : Nat) {w : World}, OwnTs w base H T → OwnTs (w.setCells g o vs) base H T
  | [], _, _, a => a
  | v :: r, o, _, a => by
    rw [World.setCells]
    exact OwnTs.cellsN hne r (o + 1) (a.otherN ⟨g, o, none⟩ v hne)
theorem OwnTs.ne_row {w : World} {base base' g n c : Nat} {H H2 : List Tlh} {T : List Tlx} (a : OwnTs w base H T) (hO : OwnR KT w base' (.slice (some ⟨g, 0, none⟩) n c) H2) : ∀ h ∈ H, h.eB ≠ some g ∧ h.dB ≠ some g := by
  intro h hm
  obtain ⟨i, hi, rfl⟩ := List.mem_iff_getElem.1 hm
  have o := a.own i _ _ (List.getElem?_eq_getElem hi) (List.getElem?_eq_getElem (by rw [← a.len]; exact hi))
  exact ⟨o.oE.ne_own hO (by decide) g rfl, o.oD.ne_own hO (by decide) g rfl⟩
theorem OwnTs.under {B : Nat} {w w' : World} {base : Nat} {H : List Tlh} {T : List Tlx} (a : OwnTs w base H T) (hb : Below B w w') (hlt : ∀ h ∈ H, (∀ k, h.eB = some k → k < B) ∧ (∀ k, h.dB = some k → k < B)) : OwnTs w' base H T :=
  a.map fun _ h _ h1 _ o => ⟨o.oE.under hb (hlt h (List.mem_of_getElem? h1)).1, o.oD.under hb (hlt h (List.mem_of_getElem? h1)).2⟩
/-- What an argument's TLBs hold. -/
theorem tls_of {w : World} : ∀ {H : List Tlh}, (∀ h ∈ H, TlbAt w h) → ∃ T : List Tlx, H.length = T.length ∧ ∀ (i : Nat) (h : Tlh) (t : Tlx), H[i]? = some h → T[i]? = some t → TlAt w h t
  | [], _ => ⟨[], rfl, fun i h t h1 _ => by simp at h1⟩
  | x :: H, a => by
    obtain ⟨T, h1, h2⟩ := tls_of (H := H) (fun h hm => a h (List.mem_cons_of_mem _ hm))
    obtain ⟨E, D, b1, b2, b3, b4, b5, b6, b7, b8⟩ := a x List.mem_cons_self
    refine ⟨⟨E, D⟩ :: T, by simp [h1], ?_⟩
    intro i h t hh ht
    cases i with
    | zero =>
      simp only [List.getElem?_cons_zero, Option.some.injEq] at hh ht
      subst hh ht
      exact ⟨b1, b3, b7, b4, b6, b8⟩
    | succ i => exact h2 i h t (by simpa using hh) (by simpa using ht)
theorem tls_small {w : World} {f : Option Addr} {H : List Tlh} {T : List Tlx} (a : TlsAt w f H T) (h6 : ∀ x ∈ H, x.l ≤ 600 ∧ x.m ≤ 600) : ∀ t ∈ T, t.E.length ≤ 90000 ∧ t.D.length ≤ 90000 := by
  intro t ht
  obtain ⟨i, hi, rfl⟩ := List.mem_iff_getElem.1 ht
  have hi2 : i < H.length := by rw [a.len]; exact hi
  have q := a.all i _ _ (List.getElem?_eq_getElem hi2) (List.getElem?_eq_getElem hi)
  have := h6 _ (List.getElem_mem hi2)
  have := q.lE
  have := q.lD
  omega
theorem waitT_small {T : List Tlx} {k : Nat} {t : Tlx} (hs : ∀ t ∈ T, t.E.length ≤ 90000 ∧ t.D.length ≤ 90000) (ht : T[k]? = some t) : ∀ x ∈ waitT T k t, x.E.length ≤ 90000 ∧ x.D.length ≤ 90000 := by
  intro x hx
  unfold waitT at hx
  rcases List.mem_or_eq_of_mem_set hx with h1 | rfl
  · obtain ⟨y, hy, rfl⟩ := List.mem_map.1 h1
    have := hs y hy
    have h2 : (keptE (fun e => anyT e t.D) y.E).length ≤ y.E.length := kept_len _ _
    exact ⟨by show (keptE _ y.E).length ≤ _; omega, this.2⟩
  · have := hs t (List.mem_of_getElem? ht)
    have h2 : (keptE (fun e => anyT e t.D) t.E).length ≤ t.E.length := kept_len _ _
    exact ⟨by show (keptE _ t.E).length ≤ _; omega, Nat.zero_le _⟩
/-- Nothing of what one waited for is left. -/
theorem waitT_none {T : List Tlx} {j i : Nat} {jt t : Tlx} (hj : T[j]? = some jt) (hm : mayTs T = true) (ht : (waitT T j jt)[i]? = some t) {e : Ety} (he : e ∈ t.E) {d : Inv} (hd : d ∈ jt.D) : takeB d e = false ∧ mayEn e = true := by
  have hin : ∃ t0 ∈ T, e ∈ keptE (fun e => anyT e jt.D) t0.E := by
    unfold waitT at ht
    have hx := List.mem_of_getElem? ht
    rcases List.mem_or_eq_of_mem_set hx with h1 | rfl
    · obtain ⟨y, hy, rfl⟩ := List.mem_map.1 h1
      exact ⟨y, hy, he⟩
    · exact ⟨jt, List.mem_of_getElem? hj, he⟩
  obtain ⟨t0, h0, h1⟩ := hin
  unfold keptE at h1
  obtain ⟨h2, h3⟩ := List.mem_filter.1 h1
  refine ⟨?_, mayT_may (mayTs_mem hm h0) e h2⟩
  have h4 : anyT e jt.D = false := by simpa using h3
  clear h3 h1 hj ht
  generalize jt.D = D at hd h4
  induction D with
  | nil => cases hd
  | cons y D ih =>
    simp only [anyT, Bool.or_eq_false_iff] at h4
    rcases List.mem_cons.1 hd with rfl | hd
    · exact h4.1
    · exact ih hd h4.2
theorem rowX {w : World} {base n c g i : Nat} {H : List Tlh} {h : Tlh} (hO : OwnR KT w base (.slice (some ⟨g, 0, none⟩) n c) H) (hh : H[i]? = some h) : RowAt w g (0 + i * 2) 2 #[.slice h.f h.l h.c, .slice h.g h.m h.d] := by
  obtain ⟨b, o, hf, hr⟩ := hO.rows.2 i h hh
  simp only [Option.some.injEq, Addr.mk.injEq, and_true] at hf
  obtain ⟨rfl, rfl⟩ := hf
  exact hr
theorem OwnTs.rowE {w : World} {base i k g l c m d : Nat} {f : Option Addr} {H : List Tlh} {T : List Tlx} {t : Tlx} {e : Ety} (a : OwnTs w base H T) (hh : H[i]? = some ⟨some ⟨g, 0, none⟩, l, c, f, m, d⟩) (ht : T[i]? = some t) (he : t.E[k]? = some e) : RowAt w g (0 + k * 14) 14 (entC e) := by
  obtain ⟨b, o, hf, hr⟩ := (a.own i _ t hh ht).oE.rows.2 k e he
  simp only [Option.some.injEq, Addr.mk.injEq, and_true] at hf
  obtain ⟨rfl, rfl⟩ := hf
  exact hr
theorem spT_info : (Try.prog.info? 43).map (·.size) = some (tlhC tlh0).size := by kernel_rfl
theorem spT_one : (tlhC tlh0).all (·.oneCell') = true := by simp [tlhC, tlh0, Value.oneCell']
set_option maxRecDepth 100000 in
set_option maxHeartbeats 3200000 in
theorem spoilTs_any (base : Nat) (f : Option Addr) (l c : Nat) (H : List Tlh) (T : List Tlx) (w : World) (hO : OwnR KT w base (.slice f l c) H) (hX : OwnTs w base H T) (hb : base ≤ w.heap.size) (hl : l ≤ 90000) (hs : ∀ t ∈ T, t.E.length ≤ 90000 ∧ t.D.length ≤ 90000) :
    Calls Try.prog 35 #[.slice f l c] w fun e w' => e = .returned (.tuple #[]) ∧ Below base w w' := by
  have L0 := Lib.hid hO
  have X0 := Lib.hid hX
  have S0 := Lib.hid hs
  have HB := Lib.hid hb
  have B0 := Lib.hid (Below.refl base w)
  have HI1 := Lib.hid spT_info
  have HI2 := Lib.hid spT_one
  clear hO hX hs hb
  go_enter Try.func35, Try.ntmps35
  go_wp2
  go_loopw [2] (fun i wr => ∃ (k : Nat) (xH : List Tlh) (xT : List Tlx), k ≤ l ∧ i = .int .i64 k ∧ Hid (OwnR KT wr base (.slice f l c) xH) ∧ Hid (OwnTs wr base xH xT) ∧ Hid (∀ t ∈ xT, t.E.length ≤ 90000 ∧ t.D.length ≤ 90000) ∧ Hid (Below base w wr)) (fun i _ => l - (intOf i).toNat)
  case atStart => exact ⟨0, H, T, Nat.zero_le _, rfl, L0, X0, S0, B0⟩
  case round =>
    obtain ⟨k, xH, xT, hk, rfl, Lr, Xr, Sr, Br⟩ := hrel
    clear L0 X0 S0 B0
    by_cases hlt : k < l
    · obtain ⟨gL, rfl, hgL⟩ := Lr.out.first (by omega)
      obtain ⟨h, t, b9, o9, hh, ht, hf9, hr0, ha⟩ := (Xr.out.at Lr.out).get (n := l) (by have h1 := Lr.out.rows.1; have h2 := Xr.out.len; omega) hlt
      simp only [Option.some.injEq, Addr.mk.injEq, and_true] at hf9
      obtain ⟨hf8, hf7⟩ := hf9
      subst hf8 hf7
      have o := Xr.out.own k h t hh ht
      have hst := Sr.out t (List.mem_of_getElem? ht)
      have HSP := Lib.hid (spoilS_any base h.f h.g h.l h.c h.m h.d t.E t.D wr o.oE o.oD (by have := ha.lE; omega) (by have := ha.lD; omega))
      have HX := Lib.hid (fun v w' (h1 : wr.grownBy v h.eB) (h2 : v.grownBy w' h.dB) => Xr.out.spoil hh ht h1 h2)
      have HL := Lib.hid (fun v w' (h1 : wr.grownBy v h.eB) (h2 : v.grownBy w' h.dB) => ((Lr.out.grownO o.oE (by decide) h1).grownO (o.oD.grownO o.oE (by decide) h1) (by decide) h2 : OwnR KT w' base _ xH))
      have HBW := Lib.hid (fun v w' (h1 : wr.grownBy v h.eB) (h2 : v.grownBy w' h.dB) => ((Br.out.grown h1 (Nat.le_trans HB.out Br.out.size) o.oE.blk).grown h2 (Nat.le_trans (Nat.le_trans HB.out Br.out.size) h1.size) o.oD.blk : Below base w w'))
      have HS1 := Lib.hid (show ∀ x ∈ xT.set k ⟨[], []⟩, x.E.length ≤ 90000 ∧ x.D.length ≤ 90000 from fun x hx => by
        rcases List.mem_or_eq_of_mem_set hx with h1 | rfl
        · exact Sr.out x h1
        · exact ⟨Nat.zero_le _, Nat.zero_le _⟩)
      have y0 := hr0.get0 (.slice h.f h.l h.c) (by decide) rfl
      have y1 := hr0.get 1 (.slice h.g h.m h.d) (by decide) rfl
      rw [Nat.zero_add] at y0 y1
      have i1 : (0 : Int) ≤ (k : Int) := by omega
      have i2 : (k : Int) < (l : Int) := by omega
      clear o hst hr0 ha hh ht
      go_wp2_with fail
      refine HSP.out.mono ?_
      rintro e w1 ⟨rfl, v, h1, h2⟩
      have L1 := Lib.hid (HL.out v w1 h1 h2)
      have X1 := Lib.hid (HX.out v w1 h1 h2)
      have B1 := Lib.hid (HBW.out v w1 h1 h2)
      clear h1 h2 y0 y1 HL HX HBW HSP
      obtain ⟨g9, hg9, _, _, hth⟩ := L1.out.there (by omega)
      simp only [Option.some.injEq, Addr.mk.injEq, and_true] at hg9
      subst hg9
      have HTH := Lib.hid (there_sub (N := 2) hth hlt)
      clear hth
      go_wp2_with (refine wpList_store_mid rfl 43 _ _ rfl gL (k * 2) (tlhC tlh0) rfl rfl HTH.out HI1.out HI2.out ?_; obtain ⟨W9, hW9⟩ : ∃ W9, W9 = w1.setCells gL (k * 2) (tlhC tlh0).toList := ⟨_, rfl⟩; rw [← hW9]; have L2 := Lib.hid (show OwnR KT W9 base (.slice (some ⟨gL, 0, none⟩) l c) (xH.set k tlh0) from by rw [hW9]; exact L1.out.setAt k tlh0 hlt); have X2 := Lib.hid (show OwnTs W9 base (xH.set k tlh0) (xT.set k ⟨[], []⟩) from by rw [hW9]; exact OwnTs.cellsN (X1.out.ne_row L1.out) _ _ X1.out); have B2 := Lib.hid (show Below base w W9 from by rw [hW9]; exact below_setCells _ _ _ _ B1.out hgL); clear hW9 L1 X1 B1)
      go_roundw
      case rel => exact ⟨k + 1, xH.set k tlh0, xT.set k ⟨[], []⟩, by omega, by go_num, L2, X2, HS1, B2⟩
      case measure => simp [intOf]; omega
    · go_wp2
      go_end0
      exact ⟨rfl, Br.out⟩
end
section
open Go.ChangeShapes Go.WideShapes Go.ChangeAt Go.RowKit Go.Deep Go.Shelf

theorem OwnR.size_le {Q : Type} {K : RowK Q} {w : World} {base n c : Nat} {f : Option Addr} {L : List Q} (h : OwnR K w base (.slice f n c) L) (h0 : 0 < n) : base ≤ w.heap.size := by
  obtain ⟨g, rfl, hg⟩ := h.first h0
  have := h.blt g rfl
  omega
set_option maxRecDepth 100000 in
set_option maxHeartbeats 3200000 in
theorem waits_walk (ft g f : Option Addr) (nt ct m d l c : Nat) (T : List Tlh) (D : List Inv) (E : List Ety) (w : World) (hn : nt = T.length) (hn2 : nt ≤ 1000000000000000) (hT : RowsAt KT w ft T) (hTT : ∀ t ∈ T, TlbAt w t) (hD : m = D.length ∧ m ≤ 1000000000000000 ∧ RowsAt KI w g D ∧ (m ≤ d ∧ d ≤ maxLen ∧ (g = none → d = 0))) (hE : l = E.length ∧ l ≤ 1000000000000000 ∧ RowsAt KE w f E) :
    Calls Try.prog 5 #[.agg #[.slice ft nt ct, .slice g m d, .slice f l c]] w fun r w' => r = .returned (.bool true) ∧ Below w.heap.size w w' := by
  have HH := Lib.hid (fun W (hB : Below w.heap.size w W) => heavyC ft g f nt ct m d l c T W hn hn2 hD.2.1 hE.2.1 (hT.below hB) (fun x hx => by obtain ⟨_, _, _, h1, _, _, h2, _⟩ := hTT x hx; exact ⟨h1, h2⟩))
  obtain ⟨TT, hT1, hT2⟩ := tls_of hTT
  have hA : TlsAt w ft T TT := ⟨hT, hT1, hT2⟩
  have hN : nt = TT.length := hn.trans hT1
  have HCP := Lib.hid (fun (h6 : nt ≤ 600) (hs : ∀ t ∈ TT, t.E.length ≤ 90000 ∧ t.D.length ≤ 90000) W (hB : Below w.heap.size w W) => copyTs_any ft nt ct T TT W (hA.below hB) hN (by omega) hs)
  have HT9 := Lib.hid (fun (h6 : nt ≤ 600) (hs : ∀ t ∈ TT, t.E.length ≤ 90000 ∧ t.D.length ≤ 90000) W (hB : Below w.heap.size w W) => tlbs9_any ft nt ct T TT W (hA.below hB) hN (by omega) hs)
  unfold EndTs at HCP
  rw [← hN] at HCP
  have HA := Lib.hid hA
  have HN := Lib.hid hN
  clear hT1 hT2 hA hN hn hT hTT hD hE
  have htw : w.heap.size ≤ w.heap.size := Nat.le_refl _
  have B0 := Lib.hid (Below.refl w.heap.size w)
  go_enter Try.func5, Try.ntmps5
  go_upto_region 1 with fail
  have P1 := Lib.hid ((BoxAt.newAt (w) #[.slice ft nt ct, .slice g m d, .slice f l c] 26 (w.heap.size) (by first | omega | (simp; done) | (simp; omega))))
  have B1 := Lib.hid ((bel_alloc B0.out (.cells #[.slice ft nt ct, .slice g m d, .slice f l c] 26)))
  obtain ⟨g1, hg1⟩ : ∃ g1, g1 = w.heap.size := ⟨_, rfl⟩
  obtain ⟨W1, hW1⟩ : ∃ W1, W1 = (w).alloc (.cells #[.slice ft nt ct, .slice g m d, .slice f l c] 26) := ⟨_, rfl⟩
  have hs1 : g1 + 1 ≤ W1.heap.size := by rw [hW1, hg1]; simp
  rw [← hW1] at P1 B1 ⊢
  have hb1 : w.heap.size ≤ g1 := by omega
  rw [← hg1] at P1 ⊢
  clear hg1
  clear hW1 B0
  have Pc0 := P1.out.get 0 (.slice ft nt ct) rfl
  have Pc1 := P1.out.get 1 (.slice g m d) rfl
  have Pc2 := P1.out.get 2 (.slice f l c) rfl
  go_wp2_with fail
  refine (HH.out _ B1.out).mono ?_
  rintro e w2 hh2
  unfold HeavyEnd at hh2
  obtain ⟨hv, rfl, hvq, hb2⟩ := hh2
  have HVQ := Lib.hid hvq
  clear hvq
  have hz2 := hb2.size
  have P2 := Lib.hid (P1.out.below hb2)
  have B2 := Lib.hid ((bel_trans B1.out hb2))
  skip
  have hs2 : g1 + 1 ≤ w2.heap.size := by omega
  clear Pc0 Pc1 Pc2
  clear P1 B1 hs1 hb2 hz2
  cases hv
  · have HV6 := Lib.hid (HVQ.out (by first | trivial | rfl))
    have hnt6 : nt ≤ 600 := HV6.out.1
    have HS := Lib.hid (tls_small HA.out HV6.out.2.2.2)
    clear HVQ
    go_wp2
    go_loopw [3] (fun i wr => ∃ cpu : Int, -1 ≤ cpu ∧ cpu ≤ nt + 1 ∧ i = .int .i64 cpu ∧ Hid (BoxAt wr (g1) #[.slice ft nt ct, .slice g m d, .slice f l c] 26) ∧ Hid (Below w.heap.size w wr)) (fun i _ => (nt + 2 - intOf i).toNat)
    case atStart => exact ⟨-1, by omega, by omega, rfl, P2.out, B2.out⟩
    case round =>
      clear P2 B2
      obtain ⟨cpu, hc0, hc1, rfl, Pr, Br⟩ := hrel
      obtain ⟨mr, hmr⟩ : ∃ mr, mr = wr.heap.size := ⟨_, rfl⟩
      have hgPr : g1 + 1 ≤ mr := by rw [hmr]; exact Pr.out.lt
      have hgwr : w.heap.size ≤ mr := by rw [hmr]; exact Br.out.size
      have hsr : mr ≤ wr.heap.size := by omega
      clear hmr
      by_cases hc2 : cpu ≤ (nt : Int)
      · have d1 : decide (cpu ≤ (nt : Int)) = true := decide_eq_true hc2
        have hcw : IntKind.i64.wrap (cpu + 1) = cpu + 1 := IntWalk.i64_in _ (by omega)
        by_cases hc3 : cpu < 5
        rotate_left
        · have d2 : decide (cpu < 5) = false := decide_eq_false hc3
          have Pc0 := Pr.out.get 0 (.slice ft nt ct) rfl
          go_wp2_with fail
          refine (wakes10_any _).mono ?_
          rintro e w3 ⟨rfl, hb3⟩
          have hz3 := hb3.size
          have P3 := Lib.hid (Pr.out.below hb3)
          have B3 := Lib.hid ((bel_trans Br.out hb3))
          skip
          have hs3 : mr ≤ w3.heap.size := by omega
          clear Pc0
          clear Pr Br hsr hb3 hz3
          go_wp2
          go_ret
          exact ⟨rfl, B3.out⟩
        have d2 : decide (cpu < 5) = true := decide_eq_true hc3
        have Pc0 := Pr.out.get 0 (.slice ft nt ct) rfl
        cases hmt : mayTs TT
        · have hno : (mayTs TT && decide (0 ≤ cpu ∧ cpu < (nt : Int))) = false := by rw [hmt]; rfl
          have H9 := Lib.hid (fun W hB => HT9.out hnt6 HS.out W hB)
          rw [hmt] at H9
          have HIW := Lib.hid (fun fi ci Hi W h => inwait_no fi nt ci cpu Hi TT W h HN.out (by omega) HS.out hno)
          clear hno hmt HT9
          go_wp2_with fail
          refine (HCP.out hnt6 HS.out _ Br.out).mono ?_
          rintro e w3 ⟨f3, c3, H3, rfl, hO3, hX3, hb3⟩
          have OI3 := Lib.hid (OwnR.mono hO3 (base' := mr) (by first | omega | (simp; done) | (simp; omega)))
          have OJ3 := Lib.hid (OwnTs.mono hX3 (base' := mr) (by first | omega | (simp; done) | (simp; omega)))
          clear hO3 hX3
          have hz3 := hb3.size
          have P3 := Lib.hid (Pr.out.below hb3)
          have B3 := Lib.hid ((bel_trans Br.out hb3))
          skip
          have hs3 : mr ≤ w3.heap.size := by omega
          clear Pc0
          clear Pr Br hsr hb3 hz3
          obtain ⟨mU, hmU⟩ : ∃ mU, mU = w3.heap.size := ⟨_, rfl⟩
          have hsU : mU ≤ w3.heap.size := by omega
          have HBI := Lib.hid (show ∀ jB, (.slice f3 nt c3 : Value).ownBlock = some jB → jB < mU from by rw [hmU]; exact OI3.out.blt)
          have HBJ := Lib.hid (show ∀ hB ∈ H3, (∀ jB, hB.eB = some jB → jB < mU) ∧ (∀ jB, hB.dB = some jB → jB < mU) from by rw [hmU]; exact OJ3.out.blt)
          have hPU : g1 + 1 ≤ mU := by rw [hmU]; exact P3.out.lt
          have hwU : w.heap.size ≤ mU := by rw [hmU]; exact B3.out.size
          have hrU : mr ≤ mU := by omega
          clear hmU
          go_wp2_with fail
          refine (HIW.out f3 c3 H3 _ ((OJ3.out).at (OI3.out))).mono ?_
          rintro e w4 ⟨rfl, hb4⟩
          have hz4 := hb4.size
          have P4 := Lib.hid (P3.out.below hb4)
          have I4 := Lib.hid (OI3.out.below hb4)
          have J4 := Lib.hid (OJ3.out.below hb4)
          have B4 := Lib.hid ((bel_trans B3.out hb4))
          skip
          have hs4 : mU ≤ w4.heap.size := by omega
          clear P3 OI3 OJ3 B3 hb4 hz4
          have Pc0 := P4.out.get 0 (.slice ft nt ct) rfl
          go_wp2_with fail
          refine (H9.out _ B4.out).mono ?_
          rintro e w5 ⟨rfl, hb5⟩
          have hz5 := hb5.size
          have P5 := Lib.hid (P4.out.below hb5)
          have I5 := Lib.hid (I4.out.below hb5)
          have J5 := Lib.hid (J4.out.below hb5)
          have B5 := Lib.hid ((bel_trans B4.out hb5))
          skip
          have hs5 : mU ≤ w5.heap.size := by omega
          clear Pc0
          clear P4 I4 J4 B4 hs4 hb5 hz5
          go_wp2_with fail
          refine (num10_any _ _).mono ?_
          rintro e w6 ⟨rfl, rfl⟩
          go_wp2_with fail
          refine (eqTs_same none none 0 0 0 [] [] [] _ (TlsAt.nil _ _) (TlsAt.nil _ _) rfl (by decide) (fun t ht => by cases ht)).mono ?_
          rintro e w7 ⟨rfl, hb7⟩
          have hz7 := hb7.size
          have P7 := Lib.hid (P5.out.below hb7)
          have I7 := Lib.hid (I5.out.below hb7)
          have J7 := Lib.hid (J5.out.below hb7)
          have B7 := Lib.hid ((bel_trans B5.out hb7))
          skip
          have hs7 : mU ≤ w7.heap.size := by omega
          clear P5 I5 J5 B5 hs5 hb7 hz7
          have Pc0 := P7.out.get 0 (.slice ft nt ct) rfl
          go_wp2_with fail
          refine (eqTs_same f3 ft nt c3 ct H3 T TT _ ((J7.out).at (I7.out)) (HA.out.below B7.out) HN.out (by omega) HS.out).mono ?_
          rintro e w8 ⟨rfl, hb8⟩
          have hz8 := hb8.size
          have P8 := Lib.hid (P7.out.below hb8)
          have I8 := Lib.hid (I7.out.below hb8)
          have J8 := Lib.hid (J7.out.below hb8)
          have B8 := Lib.hid ((bel_trans B7.out hb8))
          skip
          have hs8 : mU ≤ w8.heap.size := by omega
          clear Pc0
          clear P7 I7 J7 B7 hs7 hb8 hz8
          go_wp2
          go_roundw
          case rel => exact ⟨cpu + 1, by omega, by omega, by first | rfl | go_num, P8.out, B8.out⟩
          case measure => (simp [intOf] <;> omega)
        have HMT := Lib.hid hmt
        have H9 := Lib.hid (fun W hB => HT9.out hnt6 HS.out W hB)
        rw [hmt] at H9
        have HNU := Lib.hid (fun W => num_any cpu ((nt : Int) - 1) W)
        have hwn : IntKind.i64.wrap ((nt : Int) - 1) = (nt : Int) - 1 := IntWalk.i64_in _ (by omega)
        clear HT9
        by_cases hrg : 0 ≤ cpu ∧ cpu < (nt : Int)
        · rw [show numB cpu ((nt : Int) - 1) = true from numB_iff.2 (by omega)] at HNU
          obtain ⟨hr0, hr1⟩ := hrg
          obtain ⟨j, rfl⟩ := Int.eq_ofNat_of_zero_le hr0
          have hltj : j < nt := by omega
          obtain ⟨jh, jt, bt, ot, jhh, jht, jf, jr0, ja0⟩ := HA.out.get HN.out hltj
          obtain ⟨jhf, jhl, jhc, jhg, jhm, jhd⟩ := jh
          have HRJT := Lib.hid (show RowAt w bt (ot + j * 2) 2 #[.slice jhf jhl jhc, .slice jhg jhm jhd] from jr0)
          have hbt : bt < w.heap.size := jr0.lt
          have HAj := Lib.hid ja0
          have HTj := Lib.hid jht
          have ij0 : (0 : Int) ≤ (j : Int) := by omega
          have ij1 : (j : Int) < (nt : Int) := by omega
          subst jf
          clear jr0 ja0 jhh jht hmt hr0
          have HJV := Lib.hid (show allV jt.D = true from mayT_due (mayTs_mem HMT.out (List.mem_of_getElem? HTj.out)))
          have hjm9 : jhm ≤ 90000 := by have h1 : jhm = jt.D.length := HAj.out.lD; have := (HS.out jt (List.mem_of_getElem? HTj.out)).2; omega
          have HSW := Lib.hid (waitT_small HS.out HTj.out)
          have HNW := Lib.hid (show nt = (waitT TT j jt).length from by rw [waitT_len]; exact HN.out)
          have HW9 := Lib.hid (fun W (hB : Below w.heap.size w W) => wait9_any (some ⟨bt, ot, none⟩) nt ct j T TT jt W (HA.out.below hB) HN.out (by omega) HS.out HMT.out hltj HTj.out)
          unfold EndTs at HW9
          rw [waitT_len, ← HN.out] at HW9
          go_wp2_with fail
          refine (HCP.out hnt6 HS.out _ Br.out).mono ?_
          rintro e w3 ⟨f3, c3, H3, rfl, hO3, hX3, hb3⟩
          have OI3 := Lib.hid (OwnR.mono hO3 (base' := mr) (by first | omega | (simp; done) | (simp; omega)))
          have OJ3 := Lib.hid (OwnTs.mono hX3 (base' := mr) (by first | omega | (simp; done) | (simp; omega)))
          clear hO3 hX3
          have hz3 := hb3.size
          have P3 := Lib.hid (Pr.out.below hb3)
          have B3 := Lib.hid ((bel_trans Br.out hb3))
          skip
          have hs3 : mr ≤ w3.heap.size := by omega
          clear Pc0
          clear Pr Br hsr hb3 hz3
          obtain ⟨mU, hmU⟩ : ∃ mU, mU = w3.heap.size := ⟨_, rfl⟩
          have hsU : mU ≤ w3.heap.size := by omega
          have HBI := Lib.hid (show ∀ jB, (.slice f3 nt c3 : Value).ownBlock = some jB → jB < mU from by rw [hmU]; exact OI3.out.blt)
          have HBJ := Lib.hid (show ∀ hB ∈ H3, (∀ jB, hB.eB = some jB → jB < mU) ∧ (∀ jB, hB.dB = some jB → jB < mU) from by rw [hmU]; exact OJ3.out.blt)
          have hPU : g1 + 1 ≤ mU := by rw [hmU]; exact P3.out.lt
          have hwU : w.heap.size ≤ mU := by rw [hmU]; exact B3.out.size
          have hrU : mr ≤ mU := by omega
          clear hmU
          go_wp2_with fail
          refine (inwait_yes f3 nt c3 j H3 TT jt _ ((OJ3.out).at (OI3.out)) HN.out (by omega) HS.out HMT.out hltj HTj.out).mono ?_
          rintro e w4 ⟨f4, c4, H4, rfl, hO4, hX4, hb4⟩
          have OL4 := Lib.hid (OwnR.mono hO4 (base' := mU) (by first | omega | (simp; done) | (simp; omega)))
          have OX4 := Lib.hid (OwnTs.mono hX4 (base' := mU) (by first | omega | (simp; done) | (simp; omega)))
          clear hO4 hX4
          have hz4 := hb4.size
          have P4 := Lib.hid (P3.out.below hb4)
          have I4 := Lib.hid (OI3.out.below hb4)
          have J4 := Lib.hid (OJ3.out.below hb4)
          have B4 := Lib.hid ((bel_trans B3.out hb4))
          skip
          have hs4 : mU ≤ w4.heap.size := by omega
          clear P3 OI3 OJ3 B3 hb4 hz4
          have Pc0 := P4.out.get 0 (.slice (some ⟨bt, ot, none⟩) nt ct) rfl
          go_wp2_with fail
          refine (H9.out _ B4.out).mono ?_
          rintro e w5 ⟨rfl, hb5⟩
          have hz5 := hb5.size
          have P5 := Lib.hid (P4.out.below hb5)
          have I5 := Lib.hid (I4.out.below hb5)
          have J5 := Lib.hid (J4.out.below hb5)
          have L5 := Lib.hid (OL4.out.below hb5)
          have X5 := Lib.hid (OX4.out.below hb5)
          have B5 := Lib.hid ((bel_trans B4.out hb5))
          skip
          have hs5 : mU ≤ w5.heap.size := by omega
          clear Pc0
          clear P4 I4 J4 OL4 OX4 B4 hs4 hb5 hz5
          have Pc0 := P5.out.get 0 (.slice (some ⟨bt, ot, none⟩) nt ct) rfl
          go_wp2_with fail
          refine (HNU.out _).mono ?_
          rintro e w6 ⟨rfl, rfl⟩
          go_wp2_with fail
          refine (HW9.out _ B5.out).mono ?_
          rintro e w7 ⟨f7, c7, H7, rfl, hO7, hX7, hb7⟩
          have OM7 := Lib.hid (OwnR.mono hO7 (base' := mU) (by first | omega | (simp; done) | (simp; omega)))
          have OY7 := Lib.hid (OwnTs.mono hX7 (base' := mU) (by first | omega | (simp; done) | (simp; omega)))
          clear hO7 hX7
          have hz7 := hb7.size
          have P7 := Lib.hid (P5.out.below hb7)
          have I7 := Lib.hid (I5.out.below hb7)
          have J7 := Lib.hid (J5.out.below hb7)
          have L7 := Lib.hid (L5.out.below hb7)
          have X7 := Lib.hid (X5.out.below hb7)
          have B7 := Lib.hid ((bel_trans B5.out hb7))
          skip
          have hs7 : mU ≤ w7.heap.size := by omega
          clear Pc0
          clear P5 I5 J5 L5 X5 B5 hs5 hb7 hz7
          go_wp2_with fail
          refine (num10_any _ _).mono ?_
          rintro e w8 ⟨rfl, rfl⟩
          go_wp2_with fail
          refine (eqTs_same f4 f7 nt c4 c7 H4 H7 (waitT TT j jt) _ ((X7.out).at (L7.out)) ((OY7.out).at (OM7.out)) HNW.out (by omega) HSW.out).mono ?_
          rintro e w9 ⟨rfl, hb9⟩
          have hz9 := hb9.size
          have P9 := Lib.hid (P7.out.below hb9)
          have I9 := Lib.hid (I7.out.below hb9)
          have J9 := Lib.hid (J7.out.below hb9)
          have L9 := Lib.hid (L7.out.below hb9)
          have X9 := Lib.hid (X7.out.below hb9)
          have M9 := Lib.hid (OM7.out.below hb9)
          have Y9 := Lib.hid (OY7.out.below hb9)
          have B9 := Lib.hid ((bel_trans B7.out hb9))
          skip
          have hs9 : mU ≤ w9.heap.size := by omega
          clear P7 I7 J7 L7 X7 OM7 OY7 B7 hs7 hb9 hz9
          have Pc0 := P9.out.get 0 (.slice (some ⟨bt, ot, none⟩) nt ct) rfl
          go_wp2_with fail
          refine (eqTs_same f3 (some ⟨bt, ot, none⟩) nt c3 ct H3 T TT _ ((J9.out).at (I9.out)) (HA.out.below B9.out) HN.out (by omega) HS.out).mono ?_
          rintro e w10 ⟨rfl, hb10⟩
          have hz10 := hb10.size
          have P10 := Lib.hid (P9.out.below hb10)
          have I10 := Lib.hid (I9.out.below hb10)
          have J10 := Lib.hid (J9.out.below hb10)
          have L10 := Lib.hid (L9.out.below hb10)
          have X10 := Lib.hid (X9.out.below hb10)
          have M10 := Lib.hid (M9.out.below hb10)
          have Y10 := Lib.hid (Y9.out.below hb10)
          have B10 := Lib.hid ((bel_trans B9.out hb10))
          skip
          have hs10 : mU ≤ w10.heap.size := by omega
          clear Pc0
          clear P9 I9 J9 L9 X9 M9 Y9 B9 hs9 hb10 hz10
          go_wp2
          go_loopw [9] (fun i wr => ∃ (ia : Nat), ia ≤ nt ∧ i = .int .i64 ia ∧ Hid (BoxAt wr (g1) #[.slice (some ⟨bt, ot, none⟩) nt ct, .slice g m d, .slice f l c] 26) ∧ Hid (Below w.heap.size w wr) ∧ Hid (OwnR KT wr (mU) (.slice f4 nt c4) (H4)) ∧ Hid (OwnTs wr (mU) (H4) (waitT TT j jt)) ∧ Hid (OwnR KT wr (mr) (.slice f3 nt c3) (H3)) ∧ Hid (OwnTs wr (mr) (H3) (TT))) (fun i _ => nt - (intOf i).toNat)
          case atStart => exact ⟨0, by omega, rfl, P10.out, B10.out, L10.out, X10.out, I10.out, J10.out⟩
          case round =>
            clear P10 I10 J10 L10 X10 M10 Y10 B10
            obtain ⟨ia, hkia, rfl, Pu, Bu, Lu, Xu, Iu, Ju⟩ := hrel
            obtain ⟨mu, hmu⟩ : ∃ mu, mu = wr.heap.size := ⟨_, rfl⟩
            have hgPu : g1 + 1 ≤ mu := by rw [hmu]; exact Pu.out.lt
            have hgwu : w.heap.size ≤ mu := by rw [hmu]; exact Bu.out.size
            have HBLu := Lib.hid (show ∀ jB, (.slice f4 nt c4 : Value).ownBlock = some jB → jB < mu from by rw [hmu]; exact Lu.out.blt)
            have HBXu := Lib.hid (show ∀ hB ∈ H4, (∀ jB, hB.eB = some jB → jB < mu) ∧ (∀ jB, hB.dB = some jB → jB < mu) from by rw [hmu]; exact Xu.out.blt)
            have HBIu := Lib.hid (show ∀ jB, (.slice f3 nt c3 : Value).ownBlock = some jB → jB < mu from by rw [hmu]; exact Iu.out.blt)
            have HBJu := Lib.hid (show ∀ hB ∈ H3, (∀ jB, hB.eB = some jB → jB < mu) ∧ (∀ jB, hB.dB = some jB → jB < mu) from by rw [hmu]; exact Ju.out.blt)
            have hsu : mu ≤ wr.heap.size := by omega
            clear hmu
            by_cases hltia : ia < nt
            · have ik0ia : (0 : Int) ≤ (ia : Int) := by omega
              have ik1ia : (ia : Int) < (nt : Int) := by omega
              have ikwia : IntKind.i64.wrap ((ia : Int) + 1) = (ia : Int) + 1 := IntWalk.i64_in _ (by omega)
              obtain ⟨gx, gxf, hgx⟩ := (Lu.out).first (by omega)
              skip
              obtain ⟨xh, hxh⟩ : ∃ q, H4[ia]? = some q := ⟨_, List.getElem?_eq_getElem (by have := (Lu.out).rows.1; omega)⟩
              obtain ⟨xt, hxt⟩ : ∃ q, (waitT TT j jt)[ia]? = some q := ⟨_, List.getElem?_eq_getElem (by have := HNW.out; omega)⟩
              have hxl := ((Xu.out).own ia xh xt hxh hxt).at.lE
              obtain ⟨xf, xl, xc, xg, xm, xd⟩ := xh
              simp only at hxl
              have HXH := Lib.hid hxh
              have HXT := Lib.hid hxt
              have HXL := Lib.hid hxl
              have hxl9 : xl ≤ 90000 := by have := (HSW.out xt (List.mem_of_getElem? hxt)).1; omega
              clear hxh hxt hxl
              subst gxf
              go_wp2
              go_loopw [10] (fun i wr => ∃ (ea : Nat), ea ≤ xl ∧ i = .int .i64 ea ∧ Hid (BoxAt wr (g1) #[.slice (some ⟨bt, ot, none⟩) nt ct, .slice g m d, .slice f l c] 26) ∧ Hid (Below w.heap.size w wr) ∧ Hid (OwnR KT wr (mU) (.slice (some ⟨gx, 0, none⟩) nt c4) (H4)) ∧ Hid (OwnTs wr (mU) (H4) (waitT TT j jt)) ∧ Hid (OwnR KT wr (mr) (.slice f3 nt c3) (H3)) ∧ Hid (OwnTs wr (mr) (H3) (TT))) (fun i _ => xl - (intOf i).toNat)
              case atStart => exact ⟨0, by omega, rfl, Pu.out, Bu.out, Lu.out, Xu.out, Iu.out, Ju.out⟩
              case round =>
                clear Pu Iu Ju Lu Xu Bu
                obtain ⟨ea, hkea, rfl, Ps, Bs, Ls, Xs, Is, Js⟩ := hrel
                obtain ⟨ms, hms⟩ : ∃ ms, ms = wr.heap.size := ⟨_, rfl⟩
                have hgPs : g1 + 1 ≤ ms := by rw [hms]; exact Ps.out.lt
                have hgws : w.heap.size ≤ ms := by rw [hms]; exact Bs.out.size
                have HBLs := Lib.hid (show ∀ jB, (.slice (some ⟨gx, 0, none⟩) nt c4 : Value).ownBlock = some jB → jB < ms from by rw [hms]; exact Ls.out.blt)
                have HBXs := Lib.hid (show ∀ hB ∈ H4, (∀ jB, hB.eB = some jB → jB < ms) ∧ (∀ jB, hB.dB = some jB → jB < ms) from by rw [hms]; exact Xs.out.blt)
                have HBIs := Lib.hid (show ∀ jB, (.slice f3 nt c3 : Value).ownBlock = some jB → jB < ms from by rw [hms]; exact Is.out.blt)
                have HBJs := Lib.hid (show ∀ hB ∈ H3, (∀ jB, hB.eB = some jB → jB < ms) ∧ (∀ jB, hB.dB = some jB → jB < ms) from by rw [hms]; exact Js.out.blt)
                have hss : ms ≤ wr.heap.size := by omega
                clear hms
                by_cases hltea : ea < xl
                · have ik0ea : (0 : Int) ≤ (ea : Int) := by omega
                  have ik1ea : (ea : Int) < (xl : Int) := by omega
                  have ikwea : IntKind.i64.wrap ((ea : Int) + 1) = (ea : Int) + 1 := IntWalk.i64_in _ (by omega)
                  obtain ⟨xe, hxe⟩ := rows_some HXL.out hltea
                  have hox := ((Xs.out).own ia _ xt HXH.out HXT.out).oE
                  obtain ⟨ge, gef, hge⟩ := hox.first (show 0 < xl by omega)
                  simp only at gef
                  subst gef
                  clear hox
                  have HXE := Lib.hid hxe
                  have HNO := Lib.hid (fun d (hd : d ∈ jt.D) => waitT_none HTj.out HMT.out HXT.out (List.mem_of_getElem? HXE.out) hd)
                  clear hxe
                  have yXA := (rowX Ls.out HXH.out)
                  have yXA0 := yXA.get0 (.slice (some ⟨ge, 0, none⟩) xl xc) (by decide) rfl
                  try simp only [Nat.zero_add] at yXA0
                  clear yXA
                  go_wp2
                  clear yXA0
                  go_loopw [11] (fun i wr => ∃ (da : Nat), da ≤ jhm ∧ i = .int .i64 da ∧ Hid (BoxAt wr (g1) #[.slice (some ⟨bt, ot, none⟩) nt ct, .slice g m d, .slice f l c] 26) ∧ Hid (Below w.heap.size w wr) ∧ Hid (OwnR KT wr (mU) (.slice (some ⟨gx, 0, none⟩) nt c4) (H4)) ∧ Hid (OwnTs wr (mU) (H4) (waitT TT j jt)) ∧ Hid (OwnR KT wr (mr) (.slice f3 nt c3) (H3)) ∧ Hid (OwnTs wr (mr) (H3) (TT))) (fun i _ => jhm - (intOf i).toNat)
                  case atStart => exact ⟨0, by omega, rfl, Ps.out, Bs.out, Ls.out, Xs.out, Is.out, Js.out⟩
                  case round =>
                    clear Ps Is Js Ls Xs Bs
                    obtain ⟨da, hkda, rfl, Pt, Bt, Lt, Xt, It, Jt⟩ := hrel
                    obtain ⟨mt, hmt⟩ : ∃ mt, mt = wr.heap.size := ⟨_, rfl⟩
                    have hgPt : g1 + 1 ≤ mt := by rw [hmt]; exact Pt.out.lt
                    have hgwt : w.heap.size ≤ mt := by rw [hmt]; exact Bt.out.size
                    have HBLt := Lib.hid (show ∀ jB, (.slice (some ⟨gx, 0, none⟩) nt c4 : Value).ownBlock = some jB → jB < mt from by rw [hmt]; exact Lt.out.blt)
                    have HBXt := Lib.hid (show ∀ hB ∈ H4, (∀ jB, hB.eB = some jB → jB < mt) ∧ (∀ jB, hB.dB = some jB → jB < mt) from by rw [hmt]; exact Xt.out.blt)
                    have HBIt := Lib.hid (show ∀ jB, (.slice f3 nt c3 : Value).ownBlock = some jB → jB < mt from by rw [hmt]; exact It.out.blt)
                    have HBJt := Lib.hid (show ∀ hB ∈ H3, (∀ jB, hB.eB = some jB → jB < mt) ∧ (∀ jB, hB.dB = some jB → jB < mt) from by rw [hmt]; exact Jt.out.blt)
                    have hst : mt ≤ wr.heap.size := by omega
                    clear hmt
                    by_cases hltda : da < jhm
                    · have ik0da : (0 : Int) ≤ (da : Int) := by omega
                      have ik1da : (da : Int) < (jhm : Int) := by omega
                      have ikwda : IntKind.i64.wrap ((da : Int) + 1) = (da : Int) + 1 := IntWalk.i64_in _ (by omega)
                      obtain ⟨xi, hxi⟩ := rows_some HAj.out.lD hltda
                      have hno := HNO.out xi (List.mem_of_getElem? hxi)
                      have HTK := Lib.hid (fun W => takes9_any xi xe (fun h => mayEn_lv hno.2 (of_decide_eq_true h)) (mayPl_pg (mayIn_pl (allV_mem HJV.out da xi hxi))) W)
                      rw [hno.1] at HTK
                      unfold invV invC entV entC at HTK
                      obtain ⟨bi, oi, jgf, hri⟩ := HAj.out.rD da xi hxi
                      have HRXI := Lib.hid (show RowAt w bi (oi + da * 4) 4 #[.int .i64 xi.k, .int .i64 xi.vm, .int .i64 xi.sp, .int .i64 xi.pg] from hri)
                      have hbi : bi < w.heap.size := hri.lt
                      clear hno hri hxi
                      simp only at jgf
                      subst jgf
                      have Pc0 := Pt.out.get 0 (.slice (some ⟨bt, ot, none⟩) nt ct) rfl
                      have yJT := (HRJT.out.below Bt.out)
                      have yJT1 := yJT.get 1 (.slice (some ⟨bi, oi, none⟩) jhm jhd) (by decide) rfl
                      clear yJT
                      go_upto_region 24 with fail
                      clear Pc0 yJT1
                      refine wp_region_held_drew (S := (fun w' => BoxAt w' (g1) #[.slice (some ⟨bt, ot, none⟩) nt ct, .slice g m d, .slice f l c] 26 ∧ RowAt w' (bt) (ot + j * 2) 2 #[.slice jhf jhl jhc, .slice (some ⟨bi, oi, none⟩) jhm jhd] ∧ RowAt w' (bi) (oi + da * 4) 4 #[.int .i64 xi.k, .int .i64 xi.vm, .int .i64 xi.sp, .int .i64 xi.pg] ∧ RowAt w' (gx) (0 + ia * 2) 2 #[.slice (some ⟨ge, 0, none⟩) xl xc, .slice xg xm xd] ∧ RowAt w' (ge) (0 + ea * 14) 14 #[.int .i64 xe.k, .int .i64 xe.vm, .int .i64 xe.sp, .bool xe.al, .int .i64 xe.pg, .int .i64 xe.lv, .int .i64 xe.fr, .int .i64 xe.mi, .bool xe.t.r, .bool xe.t.w, .bool xe.t.x, .bool xe.t.a, .bool xe.t.n, .int .i64 xe.t.s])) (by kernel_rfl) ⟨Pt.out.drew, (HRJT.out.below Bt.out).drew, (HRXI.out.below Bt.out).drew, (rowX Lt.out HXH.out).drew, (show RowAt wr ge (0 + ea * 14) 14 #[.int .i64 xe.k, .int .i64 xe.vm, .int .i64 xe.sp, .bool xe.al, .int .i64 xe.pg, .int .i64 xe.lv, .int .i64 xe.fr, .int .i64 xe.mi, .bool xe.t.r, .bool xe.t.w, .bool xe.t.x, .bool xe.t.a, .bool xe.t.n, .int .i64 xe.t.s] from (Xt.out).rowE HXH.out HXT.out HXE.out).drew⟩ (fun hS => ?_)
                      refine tkR 0 95 (v := .pointer (some ⟨g1, 0, none⟩)) rfl hS (fun _ _ => by kernel_rfl) ?_
                      refine tkR 1 96 (v := .slice (some ⟨bt, ot, none⟩) nt ct) rfl hS (fun _ h => run_ld1 22 (.tmp 95) g1 0 (by kernel_rfl) (by kernel_rfl) Try.underlying22 rfl ((h.1).get 0 (.slice (some ⟨bt, ot, none⟩) nt ct) rfl)) ?_
                      refine tkR 2 97 (v := .int .i64 j) rfl hS (fun _ _ => by kernel_rfl) ?_
                      refine tkR 3 98 (v := .pointer (some ⟨bt, ot + j * 2, none⟩)) rfl hS (fun _ _ => run_ixN 22 43 (.tmp 96) (.tmp 97) bt ot nt ct j 2 (by kernel_rfl) (by kernel_rfl) (by kernel_rfl) Try.underlying22 (by kernel_rfl) hltj) ?_
                      refine tkR 4 99 (v := .pointer (some ⟨bt, ot + j * 2 + 1, none⟩)) rfl hS (fun _ _ => by kernel_rfl) ?_
                      refine tkR 5 100 (v := .slice (some ⟨bi, oi, none⟩) jhm jhd) rfl hS (fun _ h => run_ld1 23 (.tmp 99) bt (ot + j * 2 + 1) (by kernel_rfl) (by kernel_rfl) Try.underlying23 rfl ((h.2.1).get 1 (.slice (some ⟨bi, oi, none⟩) jhm jhd) (by decide) rfl)) ?_
                      refine tkR 6 101 (v := .int .i64 da) rfl hS (fun _ _ => by kernel_rfl) ?_
                      refine tkR 7 102 (v := .pointer (some ⟨bi, oi + da * 4, none⟩)) rfl hS (fun _ _ => run_ixN 23 32 (.tmp 100) (.tmp 101) bi oi jhm jhd da 4 (by kernel_rfl) (by kernel_rfl) (by kernel_rfl) Try.underlying23 (by kernel_rfl) hltda) ?_
                      refine tkR 8 103 (v := .agg #[.int .i64 xi.k, .int .i64 xi.vm, .int .i64 xi.sp, .int .i64 xi.pg]) rfl hS (fun _ h => run_ldN 32 (.tmp 102) bi (oi + da * 4) (by kernel_rfl) (by kernel_rfl) Try.underlying32 rfl (by kernel_rfl) ((h.2.2.1).sub 0 _ rfl (Nat.le_of_ble_eq_true rfl))) ?_
                      refine tkR 9 104 (v := .slice (some ⟨gx, 0, none⟩) nt c4) rfl hS (fun _ _ => by kernel_rfl) ?_
                      refine tkR 10 105 (v := .int .i64 ia) rfl hS (fun _ _ => by kernel_rfl) ?_
                      refine tkR 11 106 (v := .pointer (some ⟨gx, 0 + ia * 2, none⟩)) rfl hS (fun _ _ => run_ixN 22 43 (.tmp 104) (.tmp 105) gx 0 nt c4 ia 2 (by kernel_rfl) (by kernel_rfl) (by kernel_rfl) Try.underlying22 (by kernel_rfl) hltia) ?_
                      refine tkR 12 107 (v := .pointer (some ⟨gx, 0 + ia * 2, none⟩)) rfl hS (fun _ _ => by kernel_rfl) ?_
                      refine tkR 13 108 (v := .slice (some ⟨ge, 0, none⟩) xl xc) rfl hS (fun _ h => run_ld1 24 (.tmp 107) gx (0 + ia * 2) (by kernel_rfl) (by kernel_rfl) Try.underlying24 rfl ((h.2.2.2.1).get0 (.slice (some ⟨ge, 0, none⟩) xl xc) (by decide) rfl)) ?_
                      refine tkR 14 109 (v := .int .i64 ea) rfl hS (fun _ _ => by kernel_rfl) ?_
                      refine tkR 15 110 (v := .pointer (some ⟨ge, 0 + ea * 14, none⟩)) rfl hS (fun _ _ => run_ixN 24 36 (.tmp 108) (.tmp 109) ge 0 xl xc ea 14 (by kernel_rfl) (by kernel_rfl) (by kernel_rfl) Try.underlying24 (by kernel_rfl) hltea) ?_
                      refine tkR 16 111 (v := .agg #[.int .i64 xe.k, .int .i64 xe.vm, .int .i64 xe.sp, .bool xe.al, .int .i64 xe.pg, .int .i64 xe.lv, .int .i64 xe.fr, .int .i64 xe.mi, .bool xe.t.r, .bool xe.t.w, .bool xe.t.x, .bool xe.t.a, .bool xe.t.n, .int .i64 xe.t.s]) rfl hS (fun _ h => run_ldN 36 (.tmp 110) ge (0 + ea * 14) (by kernel_rfl) (by kernel_rfl) Try.underlying36 rfl (by kernel_rfl) ((h.2.2.2.2).sub 0 _ rfl (Nat.le_of_ble_eq_true rfl))) ?_
                      try simp only [Act.put, List.setIfInBounds_toArray, List.set_cons_zero, List.set_cons_succ]
                      refine wpAnyH_ready (rs := [17]) (by kernel_rfl) (by simp) ?_
                      refine AllReadyH.cons (o := ⟨some 112, _, _, _, _, _⟩) rfl (fun K hK => ?_) AllReadyH.nil
                      go_simp
                      refine (HTK.out _).mono ?_
                      rintro e w11 ⟨rfl, hb11⟩
                      have hz11 := hb11.size
                      try simp at hz11
                      refine hK.out _ _ ?_ (fun hS' => ?_)
                      · exact ⟨hS.1.below hb11, hS.2.1.below hb11, hS.2.2.1.below hb11, hS.2.2.2.1.below hb11, hS.2.2.2.2.below hb11⟩
                      clear hK K hS
                      have hS := hS'
                      clear hS'
                      try simp only [Act.put, List.setIfInBounds_toArray, List.set_cons_zero, List.set_cons_succ]
                      refine wpAnyH_done (by kernel_rfl) ?_ _
                      try simp only [Act.put, List.setIfInBounds_toArray, List.set_cons_zero, List.set_cons_succ]
                      have P12 := Lib.hid (((Pt.out.drew).below hb11))
                      have I12 := Lib.hid (((It.out.drew).below hb11))
                      have J12 := Lib.hid (((Jt.out.drew).below hb11))
                      have L12 := Lib.hid (((Lt.out.drew).below hb11))
                      have X12 := Lib.hid (((Xt.out.drew).below hb11))
                      have B12 := Lib.hid ((bel_trans (Below.drew Bt.out) hb11))
                      obtain ⟨W12, hW12⟩ : ∃ W12, W12 = w11 := ⟨_, rfl⟩
                      have hs12 : mt ≤ W12.heap.size := by rw [hW12]; first | exact hst | omega | (simp; omega)
                      rw [← hW12] at P12 I12 J12 L12 X12 B12 ⊢
                      clear hW12 Pt It Jt Lt Xt Bt hst
                      go_wp2
                      go_roundw
                      case rel => exact ⟨da + 1, by omega, by go_num, P12.out, B12.out, L12.out, X12.out, I12.out, J12.out⟩
                      case measure => simp [intOf] <;> omega
                    · have Pc0 := Pt.out.get 0 (.slice (some ⟨bt, ot, none⟩) nt ct) rfl
                      have yJT := (HRJT.out.below Bt.out)
                      have yJT1 := yJT.get 1 (.slice jhg jhm jhd) (by decide) rfl
                      clear yJT
                      go_wp2
                      go_roundw
                      case rel => exact ⟨ea + 1, by omega, by go_num, Pt.out, Bt.out, Lt.out, Xt.out, It.out, Jt.out⟩
                      case measure => simp [intOf] <;> omega
                · have yXA := (rowX Ls.out HXH.out)
                  have yXA0 := yXA.get0 (.slice xf xl xc) (by decide) rfl
                  try simp only [Nat.zero_add] at yXA0
                  clear yXA
                  go_wp2
                  go_roundw
                  case rel => exact ⟨ia + 1, by omega, by go_num, Ps.out, Bs.out, Ls.out, Xs.out, Is.out, Js.out⟩
                  case measure => simp [intOf] <;> omega
            · go_wp2_with fail
              refine (spoilTs_any mU f4 nt c4 H4 (waitT TT j jt) _ Lu.out Xu.out ((Lu.out).size_le (by omega)) (by omega) HSW.out).mono ?_
              rintro e w11 ⟨rfl, hb11⟩
              have hz11 := hb11.size
              clear Lu
              clear Xu
              have P11 := Lib.hid (Pu.out.under hb11 (show g1 < mU by omega))
              have I11 := Lib.hid (Iu.out.under hb11 HBI.out)
              have J11 := Lib.hid (Ju.out.under hb11 HBJ.out)
              have B11 := Lib.hid (Bu.out.trans (hb11.mono (show w.heap.size ≤ mU by omega)))
              skip
              have hs11 : mu ≤ w11.heap.size := by omega
              clear Pu Iu Ju Bu hsu hb11 hz11
              have Pc0 := P11.out.get 0 (.slice (some ⟨bt, ot, none⟩) nt ct) rfl
              go_wp2_with fail
              refine (eqTs_same f3 (some ⟨bt, ot, none⟩) nt c3 ct H3 T TT _ ((J11.out).at (I11.out)) (HA.out.below B11.out) HN.out (by omega) HS.out).mono ?_
              rintro e w12 ⟨rfl, hb12⟩
              have hz12 := hb12.size
              have P12 := Lib.hid (P11.out.below hb12)
              have I12 := Lib.hid (I11.out.below hb12)
              have J12 := Lib.hid (J11.out.below hb12)
              have B12 := Lib.hid ((bel_trans B11.out hb12))
              skip
              have hs12 : mu ≤ w12.heap.size := by omega
              clear Pc0
              clear P11 I11 J11 B11 hs11 hb12 hz12
              go_wp2
              go_roundw
              case rel => exact ⟨j + 1, by omega, by omega, by first | rfl | go_num, P12.out, B12.out⟩
              case measure => (simp [intOf] <;> omega)
        have hno : (mayTs TT && decide (0 ≤ cpu ∧ cpu < (nt : Int))) = false := by rw [decide_eq_false hrg, Bool.and_false]
        rw [show numB cpu ((nt : Int) - 1) = false from numB_no.2 (by omega)] at HNU
        have HIW := Lib.hid (fun fi ci Hi W h => inwait_no fi nt ci cpu Hi TT W h HN.out (by omega) HS.out hno)
        clear hno hmt hrg
        go_wp2_with fail
        refine (HCP.out hnt6 HS.out _ Br.out).mono ?_
        rintro e w3 ⟨f3, c3, H3, rfl, hO3, hX3, hb3⟩
        have OI3 := Lib.hid (OwnR.mono hO3 (base' := mr) (by first | omega | (simp; done) | (simp; omega)))
        have OJ3 := Lib.hid (OwnTs.mono hX3 (base' := mr) (by first | omega | (simp; done) | (simp; omega)))
        clear hO3 hX3
        have hz3 := hb3.size
        have P3 := Lib.hid (Pr.out.below hb3)
        have B3 := Lib.hid ((bel_trans Br.out hb3))
        skip
        have hs3 : mr ≤ w3.heap.size := by omega
        clear Pc0
        clear Pr Br hsr hb3 hz3
        obtain ⟨mU, hmU⟩ : ∃ mU, mU = w3.heap.size := ⟨_, rfl⟩
        have hsU : mU ≤ w3.heap.size := by omega
        have HBI := Lib.hid (show ∀ jB, (.slice f3 nt c3 : Value).ownBlock = some jB → jB < mU from by rw [hmU]; exact OI3.out.blt)
        have HBJ := Lib.hid (show ∀ hB ∈ H3, (∀ jB, hB.eB = some jB → jB < mU) ∧ (∀ jB, hB.dB = some jB → jB < mU) from by rw [hmU]; exact OJ3.out.blt)
        have hPU : g1 + 1 ≤ mU := by rw [hmU]; exact P3.out.lt
        have hwU : w.heap.size ≤ mU := by rw [hmU]; exact B3.out.size
        have hrU : mr ≤ mU := by omega
        clear hmU
        go_wp2_with fail
        refine (HIW.out f3 c3 H3 _ ((OJ3.out).at (OI3.out))).mono ?_
        rintro e w4 ⟨rfl, hb4⟩
        have hz4 := hb4.size
        have P4 := Lib.hid (P3.out.below hb4)
        have I4 := Lib.hid (OI3.out.below hb4)
        have J4 := Lib.hid (OJ3.out.below hb4)
        have B4 := Lib.hid ((bel_trans B3.out hb4))
        skip
        have hs4 : mU ≤ w4.heap.size := by omega
        clear P3 OI3 OJ3 B3 hb4 hz4
        have Pc0 := P4.out.get 0 (.slice ft nt ct) rfl
        go_wp2_with fail
        refine (H9.out _ B4.out).mono ?_
        rintro e w5 ⟨rfl, hb5⟩
        have hz5 := hb5.size
        have P5 := Lib.hid (P4.out.below hb5)
        have I5 := Lib.hid (I4.out.below hb5)
        have J5 := Lib.hid (J4.out.below hb5)
        have B5 := Lib.hid ((bel_trans B4.out hb5))
        skip
        have hs5 : mU ≤ w5.heap.size := by omega
        clear Pc0
        clear P4 I4 J4 B4 hs4 hb5 hz5
        have Pc0 := P5.out.get 0 (.slice ft nt ct) rfl
        go_wp2_with fail
        refine (HNU.out _).mono ?_
        rintro e w6 ⟨rfl, rfl⟩
        go_wp2_with fail
        refine (num10_any _ _).mono ?_
        rintro e w7 ⟨rfl, rfl⟩
        go_wp2_with fail
        refine (eqTs_same none none 0 0 0 [] [] [] _ (TlsAt.nil _ _) (TlsAt.nil _ _) rfl (by decide) (fun t ht => by cases ht)).mono ?_
        rintro e w8 ⟨rfl, hb8⟩
        have hz8 := hb8.size
        have P8 := Lib.hid (P5.out.below hb8)
        have I8 := Lib.hid (I5.out.below hb8)
        have J8 := Lib.hid (J5.out.below hb8)
        have B8 := Lib.hid ((bel_trans B5.out hb8))
        skip
        have hs8 : mU ≤ w8.heap.size := by omega
        clear Pc0
        clear P5 I5 J5 B5 hs5 hb8 hz8
        have Pc0 := P8.out.get 0 (.slice ft nt ct) rfl
        go_wp2_with fail
        refine (eqTs_same f3 ft nt c3 ct H3 T TT _ ((J8.out).at (I8.out)) (HA.out.below B8.out) HN.out (by omega) HS.out).mono ?_
        rintro e w9 ⟨rfl, hb9⟩
        have hz9 := hb9.size
        have P9 := Lib.hid (P8.out.below hb9)
        have I9 := Lib.hid (I8.out.below hb9)
        have J9 := Lib.hid (J8.out.below hb9)
        have B9 := Lib.hid ((bel_trans B8.out hb9))
        skip
        have hs9 : mU ≤ w9.heap.size := by omega
        clear Pc0
        clear P8 I8 J8 B8 hs8 hb9 hz9
        go_wp2
        go_roundw
        case rel => exact ⟨cpu + 1, by omega, by omega, by first | rfl | go_num, P9.out, B9.out⟩
        case measure => (simp [intOf] <;> omega)
      · have d1 : decide (cpu ≤ (nt : Int)) = false := decide_eq_false hc2
        have Pc0 := Pr.out.get 0 (.slice ft nt ct) rfl
        go_wp2_with fail
        refine (wakes10_any _).mono ?_
        rintro e w3 ⟨rfl, hb3⟩
        have hz3 := hb3.size
        have P3 := Lib.hid (Pr.out.below hb3)
        have B3 := Lib.hid ((bel_trans Br.out hb3))
        skip
        have hs3 : mr ≤ w3.heap.size := by omega
        clear Pc0
        clear Pr Br hsr hb3 hz3
        go_wp2
        go_ret
        exact ⟨rfl, B3.out⟩
  go_wp2
  go_ret
  exact ⟨rfl, B2.out⟩
end
end Go.Proofs.Ytjohnpbfdpmajaa
