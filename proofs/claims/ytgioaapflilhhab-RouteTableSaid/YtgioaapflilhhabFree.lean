/- Words for slices that may be written and appended to, wherever they begin in their row. No program is named. -/
import Derived.Test.YtgioaapflilhhabCore
import Derived.ArgAppend
import Derived.Deep.Upon
namespace Go.Proofs.Ytgioaapflilhhab
open Go.RowKit

/-- a slice of elements of one cell each, in a row from block `base` on that may be written: n elements, room for c -/
def Free (w : World) (base : Nat) (e : TypeId) (A : Option Addr) (n c : Nat) (xs : List Value) : Prop :=
  xs.length = n ∧ n ≤ c ∧ c ≤ maxLen ∧ (0 < c → ∃ g off cur, A = some ⟨g, off, none⟩ ∧ base ≤ g ∧ Blk w g e cur ∧ off + c ≤ cur.size ∧ ∀ j, j < n → cur[off + j]? = xs[j]?)

section
variable {w w' : World} {base n c : Nat} {e : TypeId} {A : Option Addr} {xs : List Value}
theorem Free.nil (w : World) (base : Nat) (e : TypeId) : Free w base e none 0 0 [] := ⟨rfl, Nat.le_refl _, by decide, fun h => absurd h (by omega)⟩
theorem Free.sees (h : Free w base e A n c xs) : Sees w w.heap.size A n xs := by
  refine ⟨h.1, fun hn => ?_⟩
  obtain ⟨g, off, cur, rfl, _, hb, _, hc⟩ := h.2.2.2 (by have := h.2.1; omega)
  refine ⟨g, off, rfl, hb.lt, fun j u hu => ?_⟩
  rw [hb.cell, hc j (by have := (List.getElem?_eq_some_iff.1 hu).1; have := h.1; omega)]
  exact hu
theorem Free.of_own (h : w.ownsRow base e 1 (.slice A n c) n xs) : Free w base e A n c xs := by
  refine ⟨by simpa using h.1, ?_⟩
  rcases h.2 with ⟨hv, rfl⟩ | ⟨g, cap, cur, hv, hb, hg, h1, h2, h3, h4⟩
  · injection hv with _ _ h2
    subst h2
    exact ⟨Nat.le_refl _, by decide, fun h => absurd h (by omega)⟩
  · injection hv with hA _ hc
    subst hA
    subst hc
    refine ⟨h1, h2, fun _ => ⟨g, 0, cur, rfl, hb, hg, by omega, fun j hj => ?_⟩⟩
    rw [Nat.zero_add, ← h4, List.getElem?_take, if_pos (by omega)]
    simp
theorem Free.keep (h : Free w base e A n c xs) (hk : ∀ a, A = some a → base ≤ a.block → a.block < w.heap.size → w'.heap[a.block]? = w.heap[a.block]?) : Free w' base e A n c xs := by
  refine ⟨h.1, h.2.1, h.2.2.1, fun hc => ?_⟩
  obtain ⟨g, off, cur, hA, hb, hB, hs⟩ := h.2.2.2 hc
  exact ⟨g, off, cur, hA, hb, (hk _ hA hb hB.lt).trans hB, hs⟩
theorem Free.below {B : Nat} (h : Free w base e A n c xs) (hb : Below B w w') (hB : w.heap.size ≤ B) : Free w' base e A n c xs := h.keep fun _ _ _ hl => hb.block _ (by omega)
theorem Free.on (h : Free w base e A n c xs) (hb : Below w.heap.size w w') : Free w' base e A n c xs := h.below hb (Nat.le_refl _)
theorem Free.drew (h : Free w base e A n c xs) : Free w.drew base e A n c xs := h
theorem Free.alloc (h : Free w base e A n c xs) (o : Obj) : Free (w.alloc o) base e A n c xs := h.keep fun _ _ _ hl => Below.heap_alloc w o _ hl
theorem Free.grown {row : Option Nat} (h : Free w base e A n c xs) (hg : w.grownBy w' row) (hn : ∀ a, A = some a → base ≤ a.block → a.block < w.heap.size → some a.block ≠ row) : Free w' base e A n c xs :=
  h.keep fun a hA hb hl => hg.block _ hl (hn a hA hb hl)
theorem Free.far (h : Free w base e A n c xs) {p : Addr} (hp : ∀ a, A = some a → base ≤ a.block → a.block ≠ p.block) (u : Value) : Free (w.setCell p u) base e A n c xs :=
  h.keep fun a hA hb _ => Below.heap_setCell w p u _ (hp a hA hb)
theorem Free.mono {base' : Nat} (h : Free w base e A n c xs) (hb : base' ≤ base) : Free w base' e A n c xs := by
  refine ⟨h.1, h.2.1, h.2.2.1, fun hc => ?_⟩
  obtain ⟨g, off, cur, hA, hg, hs⟩ := h.2.2.2 hc
  exact ⟨g, off, cur, hA, by omega, hs⟩
theorem Free.take {k : Nat} (h : Free w base e A n c xs) (hk : k ≤ n) : Free w base e A k c (xs.take k) := by
  refine ⟨by rw [List.length_take, h.1]; omega, by have := h.2.1; omega, h.2.2.1, fun hc => ?_⟩
  obtain ⟨g, off, cur, hA, hb, hB, hs, hx⟩ := h.2.2.2 hc
  exact ⟨g, off, cur, hA, hb, hB, hs, fun j hj => by rw [hx j (by omega), List.getElem?_take, if_pos hj]⟩
theorem Free.drop {k : Nat} (h : Free w base e A n c xs) (hk : k ≤ n) : Free w base e (if c = k then A else A.map (·.add k)) (n - k) (c - k) (xs.drop k) := by
  refine ⟨by rw [List.length_drop, h.1], by have := h.2.1; omega, by have := h.2.2.1; omega, fun hc => ?_⟩
  obtain ⟨g, off, cur, rfl, hb, hB, hs, hx⟩ := h.2.2.2 (by omega)
  rw [if_neg (by omega)]
  refine ⟨g, off + k, cur, ?_, hb, hB, by omega, fun j hj => ?_⟩
  · simp only [Option.map_some, Option.some.injEq, Addr.add]
    split <;> simp_all
  · rw [show off + k + j = off + (k + j) from by omega, hx (k + j) (by omega), List.getElem?_drop]
theorem Free.at_ {k : Nat} (h : Free w base e A n c xs) (hk : k < n) : ∃ g off u, A = some ⟨g, off, none⟩ ∧ base ≤ g ∧ g < w.heap.size ∧ xs[k]? = some u ∧ w.cell? ⟨g, off + k, none⟩ = some u ∧ w.frozen? ⟨g, off + k, none⟩ = false := by
  obtain ⟨g, off, cur, rfl, hb, hB, hs, hx⟩ := h.2.2.2 (by have := h.2.1; omega)
  have hl : k < xs.length := by have := h.1; omega
  exact ⟨g, off, xs[k], rfl, hb, hB.lt, List.getElem?_eq_getElem hl, by rw [hB.cell, hx k hk]; exact List.getElem?_eq_getElem hl, hB.frozen _⟩
/-- an element is stored -/
theorem Free.put {g off k : Nat} (h : Free w base e (some ⟨g, off, none⟩) n c xs) (u : Value) (hk : k < n) : Free (w.setCell ⟨g, off + k, none⟩ u) base e (some ⟨g, off, none⟩) n c (xs.set k u) := by
  refine ⟨by rw [List.length_set]; exact h.1, h.2.1, h.2.2.1, fun hc => ?_⟩
  obtain ⟨g', off', cur, hA, hb, hB, hs, hx⟩ := h.2.2.2 hc
  injection hA with hA
  injection hA with h1 h2
  subst h1
  subst h2
  refine ⟨g, off, _, rfl, hb, hB.set_ (off + k) u, by simpa using hs, fun j hj => ?_⟩
  rw [Array.getElem?_setIfInBounds, List.getElem?_set]
  by_cases e : k = j
  · subst e
    rw [if_pos rfl, if_pos rfl, if_pos (by have := h.2.1; omega), if_pos (by have := h.1; omega)]
  · rw [if_neg (by omega), if_neg e]
    exact hx j hj

/-! ### cells of a block, set one by one -/
theorem Blk.sets {g : Nat} : ∀ (vs : List Value) (o : Nat) (w : World) (cur : Array Value), Blk w g e cur → o + vs.length ≤ cur.size →
    ∃ cur', Blk (w.setCells g o vs) g e cur' ∧ cur'.size = cur.size ∧ (∀ i, (i < o ∨ o + vs.length ≤ i) → cur'[i]? = cur[i]?) ∧ ∀ j, j < vs.length → cur'[o + j]? = vs[j]? := by
  intro vs
  induction vs with
  | nil => intro o w cur hb _; exact ⟨cur, hb, rfl, fun _ _ => rfl, fun j hj => absurd hj (by simp)⟩
  | cons v r ih =>
    intro o w cur hb hl
    simp only [List.length_cons] at hl
    obtain ⟨cur', h1, h2, h3, h4⟩ := ih (o + 1) (w.setCell ⟨g, o, none⟩ v) _ (hb.set_ o v) (by simp; omega)
    refine ⟨cur', h1, by simpa using h2, fun i hi => ?_, fun j hj => ?_⟩
    · simp only [List.length_cons] at hi
      rw [h3 i (by omega), Array.getElem?_setIfInBounds, if_neg (by omega)]
    · rcases j with _ | j
      · rw [h3 (o + 0) (by omega), Array.getElem?_setIfInBounds, if_pos (by omega), if_pos (by omega)]
        rfl
      · rw [show o + (j + 1) = o + 1 + j from by omega, h4 j (by simp at hj; omega)]
        rfl
theorem gb_sets {a : World} {g : Nat} : ∀ (vs : List Value) (o : Nat) (w : World), a.grownBy w (some g) → a.grownBy (w.setCells g o vs) (some g)
  | [], _, _, h => h
  | v :: r, o, _, h => gb_sets r (o + 1) _ (gb_set h o v)
end

/-- where a slice's elements are known to be -/
theorem Sees.src {P : Program} {w : World} {B m c : Nat} {A : Option Addr} {news : List Value} {tx e' : TypeId} (hk : P.underlying tx = some (.slice e')) (h : Sees w B A m news) (h1 : ∀ u ∈ news, u.oneCell' = true) : Src P 1 tx (.slice A m c) m news w := by
  rcases Nat.eq_zero_or_pos m with hm | hm
  · subst hm
    have hn : news = [] := List.eq_nil_of_length_eq_zero h.1
    subst hn
    cases A with
    | none => exact Src.ofNil w hk c
    | some a => exact Src.ofSlice w hk a 0 c [] (by simp) (fun j u hu => by simp at hu) (fun _ h => by cases h)
  · obtain ⟨b, off, rfl, _, hc⟩ := h.2 hm
    exact Src.ofSlice w hk _ m c news (by rw [h.1]; omega) (fun j u hu => by rw [Addr.add_lit]; exact hc j u hu) h1

/-- what an append onto such a slice leaves -/
def Appended (w : World) (base : Nat) (e : TypeId) (A : Option Addr) (n c : Nat) (xs : List Value) (m : Nat) (news : List Value) (A' : Option Addr) (c' : Nat) (w' : World) : Prop :=
  Free w' base e A' (n + m) c' (xs ++ news) ∧ Free w' base e A n c xs ∧ w.grownBy w' (A.map (·.block)) ∧ ((A' = A ∧ c' = c ∧ n + m ≤ c ∧ (c = 0 → w' = w)) ∨ (w.grownBy w' none ∧ ∃ g, A' = some ⟨g, 0, none⟩ ∧ w.heap.size ≤ g))
theorem gb_any {w w' : World} (h : w.grownBy w' none) (r : Option Nat) : w.grownBy w' r := ⟨h.os, h.tape, h.output, h.size, fun i hi _ => h.block i hi (by simp)⟩

theorem append_free {P : Program} (w : World) (base : Nat) (t ty e : TypeId) (i : TypeInfo) (z : Value) (bytes : Nat) (ht : P.underlying t = some (.slice e)) (hi : P.info? e = some i) (hz : i.zero = some z)
    (hsize : i.size = 1) (hby : i.bytes = bytes) (hzs : z.cells.size = 1)
    (A : Option Addr) (n c : Nat) (xs : List Value) (hown : Free w base e A n c xs) (h1x : ∀ u ∈ xs, u.oneCell' = true)
    (B : Nat) (A2 : Option Addr) (m c2 : Nat) (news : List Value) (hr : Sees w B A2 m news) (h1 : ∀ u ∈ news, u.oneCell' = true)
    (h63 : n + m ≤ maxLen) (hbytes : (n + m) * bytes ≤ 140737488355328) (hbase : base ≤ w.heap.size) :
    ∃ A' c' w', (Builtin.append_ #[t, t] ty #[.slice A n c, .slice A2 m c2]).run P w = .ok (.slice A' (n + m) c') w' ∧ Appended w base e A n c xs m news A' c' w' := by
  have hsrc : Src P i.size t (.slice A2 m c2) m news w := by rw [hsize]; exact hr.src ht h1
  rcases Nat.eq_zero_or_pos m with hm | hm
  · subst hm
    have hn : news = [] := List.eq_nil_of_length_eq_zero hr.1
    subst hn
    exact ⟨A, c, w, run_append_nothing w t t ty e i ht hi A n c hown.2.1 _ hsrc, by simpa using hown, hown, gb_refl _ _, .inl ⟨rfl, rfl, hown.2.1, fun _ => rfl⟩⟩
  · rcases Nat.lt_or_ge c (n + m) with hg | hroom
    · have hfin : ∀ (v' : Value) (w' : World), w'.ownsRow w.heap.size e 1 v' (n + m) (xs ++ news) → w.grownBy w' none → ∃ A' c', v' = .slice A' (n + m) c' ∧ Appended w base e A n c xs m news A' c' w' := by
        intro v' w' ho hgr
        obtain ⟨A', c', rfl, _, _⟩ := own_form ho
        refine ⟨A', c', rfl, (Free.of_own ho).mono hbase, hown.grown hgr (fun _ _ _ _ => by simp), gb_any hgr _, .inr ⟨hgr, ?_⟩⟩
        rcases ho.2 with ⟨_, h0⟩ | ⟨g, cap, cur, hv, hb, _⟩
        · omega
        · injection hv with hv
          exact ⟨g, hv, hb⟩
      cases A with
      | none =>
        have hc0 : c = 0 := by
          rcases Nat.eq_zero_or_pos c with h | h
          · exact h
          · obtain ⟨_, _, _, h, _⟩ := hown.2.2.2 h
            cases h
        subst hc0
        have hn0 : n = 0 := by have := hown.2.1; omega
        subst hn0
        have hx : xs = [] := List.eq_nil_of_length_eq_zero hown.1
        subst hx
        obtain ⟨b2, off2, rfl, _, hc2⟩ := hr.2 hm
        obtain ⟨v', w', hrun, r1, r2, _⟩ := run_append_own (P := P) w w.heap.size t ty e i z 1 bytes ht hi hz hsize hby hzs (by omega) (.slice none 0 0) 0 [] (World.ownsRow_nil w _ e 1) ⟨b2, off2, none⟩ m c2 news (by rw [hr.1]; omega) (fun j u hu => by rw [Addr.add_lit]; exact hc2 j u hu) h1 h63 hbytes (Nat.le_refl _)
        obtain ⟨A', c', rfl, hA⟩ := hfin v' w' r1 r2
        exact ⟨A', c', w', hrun, hA⟩
      | some a =>
        obtain ⟨b2, off2, rfl, _, hc2⟩ := hr.2 hm
        obtain ⟨v', w', hrun, r1, r2⟩ := run_append_arg_grows (P := P) w t ty e i z 1 bytes ht hi hz hsize hby hzs (by omega) a n c xs (by rw [hown.1]; omega) (fun j u hu => by
          have hj : j < n := by have := (List.getElem?_eq_some_iff.1 hu).1; have := hown.1; omega
          obtain ⟨b, off, hA, _, hcell⟩ := hown.sees.2 (by omega)
          injection hA with hA
          subst hA
          rw [Addr.add_lit]
          exact hcell j u hu) ⟨b2, off2, none⟩ m c2 news (by rw [hr.1]; omega) (fun j u hu => by rw [Addr.add_lit]; exact hc2 j u hu) hg h63 hbytes
        obtain ⟨A', c', rfl, hA⟩ := hfin v' w' r1 r2
        exact ⟨A', c', w', hrun, hA⟩
    · have hcp : 0 < c := by omega
      obtain ⟨g, off, cur, rfl, hb, hB, hs, hx⟩ := hown.2.2.2 hcp
      have hml : news.length = m := hr.1
      obtain ⟨cur', b1, b2, b3, b4⟩ := Blk.sets news (off + n) w cur hB (by omega)
      have hrun := run_append_room_src (P := P) w t t ty e i ht hi g off n c (.slice A2 m c2) m news hsrc hroom
        (fun j hj => by rw [hB.cell, Array.getElem?_eq_getElem (by rw [hsize]; omega)]; rfl) (fun j hj => hB.frozen _)
      rw [hsize, Nat.mul_one] at hrun
      refine ⟨_, _, _, hrun, ⟨by rw [List.length_append, hown.1, hml], hroom, hown.2.2.1, fun _ => ⟨g, off, cur', rfl, hb, b1, by omega, fun j hj => ?_⟩⟩, ⟨hown.1, hown.2.1, hown.2.2.1, fun _ => ⟨g, off, cur', rfl, hb, b1, by omega, fun j hj => ?_⟩⟩, gb_sets _ _ _ (gb_refl _ _), .inl ⟨rfl, rfl, hroom, fun h => absurd h (by omega)⟩⟩
      · by_cases hjn : j < n
        · rw [b3 _ (by omega), hx j hjn, List.getElem?_append_left (by have := hown.1; omega)]
        · rw [List.getElem?_append_right (by have := hown.1; omega), hown.1, ← b4 (j - n) (by omega)]
          congr 1
          omega
      · rw [b3 _ (by omega)]
        exact hx j hj

theorem wpList_append_free {P : Program} (w : World) {ops : Array Oper} {rest : List Oper} {o : Oper} {a : Act} {Q : Exit → Act → World → Prop} (hgd : o.guard = none) (s x : Operand) (t : TypeId)
    (ho : o.op = .call { callee := .builtin .append, args := #[s, x], argTypes := #[t, t] })
    (base : Nat) (e : TypeId) (i : TypeInfo) (z : Value) (bytes : Nat) (ht : P.underlying t = some (.slice e)) (hi : P.info? e = some i) (hz : i.zero = some z)
    (hsize : i.size = 1) (hby : i.bytes = bytes) (hzs : z.cells.size = 1)
    (A : Option Addr) (n c : Nat) (xs : List Value) (hs : a.eval s = .slice A n c) (hown : Free w base e A n c xs) (h1x : ∀ u ∈ xs, u.oneCell' = true)
    (B : Nat) (A2 : Option Addr) (m c2 : Nat) (news : List Value) (hx : a.eval x = .slice A2 m c2) (hr : Sees w B A2 m news) (h1 : ∀ u ∈ news, u.oneCell' = true)
    (h63 : n + m ≤ maxLen) (hbytes : (n + m) * bytes ≤ 140737488355328) (hbase : base ≤ w.heap.size)
    (h : ∀ A' c' w', Appended w base e A n c xs m news A' c' w' → wpList P ops Q rest (a.put o.dst (.slice A' (n + m) c')) w') : wpList P ops Q (o :: rest) a w := by
  obtain ⟨A', c', w', hrun, h2⟩ := append_free (P := P) w base t o.type e i z bytes ht hi hz hsize hby hzs A n c xs hown h1x B A2 m c2 news hr h1 h63 hbytes hbase
  exact Lib.wpList_append_run w hgd s x t t ho _ _ hs hx _ w' hrun (h A' c' w' h2)


section
variable {w w' w0 : World} {base n c m c' B : Nat} {e : TypeId} {A A' : Option Addr} {xs news : List Value}
/-- the one row that may have turned, if any -/
theorem Appended.row (h : Appended w base e A n c xs m news A' c' w') (h0 : Free w base e A n c xs) : w.grownBy w' none ∨ ∃ g cur, base ≤ g ∧ Blk w g e cur ∧ w.grownBy w' (some g) := by
  by_cases hc : 0 < c
  · obtain ⟨g, off, cur, rfl, hg, hb, _⟩ := h0.2.2.2 hc
    exact .inr ⟨g, cur, hg, hb, h.2.2.1⟩
  · rcases h.2.2.2 with ⟨_, _, _, hw⟩ | ⟨hg, _⟩
    · have := hw (by omega)
      subst this
      exact .inl (gb_refl _ _)
    · exact .inl hg
theorem Appended.below (h : Appended w base e A n c xs m news A' c' w') (h0 : Free w base e A n c xs) (hb : Below B w0 w) (hB : B ≤ w.heap.size) (hbase : B ≤ base) : Below B w0 w' := by
  rcases h.row h0 with hg | ⟨g, cur, hg, _, hgr⟩
  · exact hb.grown hg hB (fun k e => by cases e)
  · exact hb.grown hgr hB (fun k e => by injection e; omega)
/-- a row of elements of another type is as it was -/
theorem Appended.across {base2 n2 c2 : Nat} {e2 : TypeId} {A2 : Option Addr} {ys : List Value} (h : Appended w base e A n c xs m news A' c' w') (h0 : Free w base e A n c xs) (hne : e2 ≠ e) (h2 : Free w base2 e2 A2 n2 c2 ys) : Free w' base2 e2 A2 n2 c2 ys := by
  rcases h.row h0 with hg | ⟨g, cur, _, hblk, hgr⟩
  · exact h2.grown hg (fun _ _ _ _ => by simp)
  · refine ⟨h2.1, h2.2.1, h2.2.2.1, fun hc => ?_⟩
    obtain ⟨g2, off2, cur2, hA, hb2, hB2, hs⟩ := h2.2.2.2 hc
    refine ⟨g2, off2, cur2, hA, hb2, hB2.grown hgr (fun e => ?_), hs⟩
    injection e with e
    subst e
    unfold Blk at hblk hB2
    rw [hblk] at hB2
    injection hB2 with hB2
    injection hB2 with _ ht
    exact hne ht.symm
end
theorem Free.lt {w : World} {base n c : Nat} {e : TypeId} {A : Option Addr} {xs : List Value} (h : Free w base e A n c xs) : ∀ a, A = some a → 0 < c → a.block < w.heap.size := by
  intro a ha hc
  obtain ⟨g, off, cur, hA, _, hb, _⟩ := h.2.2.2 hc
  rw [hA] at ha
  injection ha with ha
  subst ha
  exact hb.lt
/-- a row from later blocks is as it was -/
theorem Appended.apart {w w' : World} {base n c m c' : Nat} {e : TypeId} {A A' : Option Addr} {xs news : List Value} {base2 n2 c2 : Nat} {e2 : TypeId} {A2 : Option Addr} {ys : List Value} (h : Appended w base e A n c xs m news A' c' w')
    (hlt : ∀ a, A = some a → 0 < c → a.block < base2) (h2 : Free w base2 e2 A2 n2 c2 ys) : Free w' base2 e2 A2 n2 c2 ys := by
  by_cases hc : 0 < c
  · refine h2.grown h.2.2.1 (fun a ha hb _ => ?_)
    cases A with
    | none => simp
    | some a' =>
      have := hlt a' rfl hc
      simp
      omega
  · rcases h.2.2.2 with ⟨_, _, _, hw⟩ | ⟨hg, _⟩
    · have := hw (by omega)
      subst this
      exact h2
    · exact h2.grown hg (fun _ _ _ _ => by simp)
/-- a row that was just made, as one that may be written -/
theorem free_new (w : World) (cs : Array Value) (t : TypeId) (h : cs.size ≤ maxLen) : Free (w.alloc (.cells cs t)) w.heap.size t (some ⟨w.heap.size, 0, none⟩) cs.size cs.size cs.toList :=
  ⟨by simp, Nat.le_refl _, h, fun _ => ⟨w.heap.size, 0, cs, rfl, Nat.le_refl _, Blk.new w t cs, by omega, fun j _ => by simp⟩⟩
end Go.Proofs.Ytgioaapflilhhab
