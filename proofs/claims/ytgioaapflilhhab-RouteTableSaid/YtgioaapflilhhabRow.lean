/- Words for slices of elements of several cells that may be written and appended to, wherever they begin in their row; and what a call that turns one block and one row leaves. No program is named. -/
import Derived.Test.YtgioaapflilhhabFree
namespace Go.Proofs.Ytgioaapflilhhab
open Go.RowKit

/-- a slice of elements of sz cells each, in a row from block `base` on that may be written: n elements, room for c -/
def FreeN (sz : Nat) (w : World) (base : Nat) (e : TypeId) (A : Option Addr) (n c : Nat) (xs : List Value) : Prop :=
  xs.length = n * sz ∧ n ≤ c ∧ c ≤ maxLen ∧ (0 < c → ∃ g off cur, A = some ⟨g, off, none⟩ ∧ base ≤ g ∧ Blk w g e cur ∧ off + c * sz ≤ cur.size ∧ ∀ j, j < n * sz → cur[off + j]? = xs[j]?)

/-- the block that an append onto a slice may turn -/
def foot (A : Option Addr) (c : Nat) : Option Nat := if 0 < c then A.map (·.block) else none

section
variable {sz : Nat} {w w' : World} {base n c : Nat} {e : TypeId} {A : Option Addr} {xs : List Value}
theorem FreeN.nil (sz : Nat) (w : World) (base : Nat) (e : TypeId) : FreeN sz w base e none 0 0 [] := ⟨by simp, Nat.le_refl _, by decide, fun h => absurd h (by omega)⟩
theorem FreeN.foot_at (h : FreeN sz w base e A n c xs) : ∀ k, foot A c = some k → base ≤ k ∧ ∃ cur, Blk w k e cur := by
  intro k hk
  unfold foot at hk
  split at hk
  · rename_i hc
    obtain ⟨g, off, cur, rfl, hg, hb, _⟩ := h.2.2.2 hc
    injection hk with hk
    subst hk
    exact ⟨hg, cur, hb⟩
  · cases hk
theorem FreeN.foot_some (h : FreeN sz w base e A n c xs) (hn : 0 < n) : ∃ k, foot A c = some k ∧ base ≤ k := by
  have hc : 0 < c := Nat.lt_of_lt_of_le hn h.2.1
  obtain ⟨g, off, cur, rfl, hg, _⟩ := h.2.2.2 hc
  exact ⟨g, by unfold foot; rw [if_pos hc]; rfl, hg⟩
theorem FreeN.sees (h : FreeN sz w base e A n c xs) : Sees w w.heap.size A (n * sz) xs := by
  refine ⟨h.1, fun hn => ?_⟩
  have hn0 : 0 < n := Nat.pos_of_ne_zero (fun e => by subst e; omega)
  obtain ⟨g, off, cur, rfl, _, hb, _, hc⟩ := h.2.2.2 (by have := h.2.1; omega)
  refine ⟨g, off, rfl, hb.lt, fun j u hu => ?_⟩
  rw [hb.cell, hc j (by have := (List.getElem?_eq_some_iff.1 hu).1; have := h.1; omega)]
  exact hu
theorem FreeN.of_own (h : w.ownsRow base e sz (.slice A n c) n xs) : FreeN sz w base e A n c xs := by
  refine ⟨h.1, ?_⟩
  rcases h.2 with ⟨hv, rfl⟩ | ⟨g, cap, cur, hv, hb, hg, h1, h2, h3, h4⟩
  · injection hv with _ _ h2
    subst h2
    exact ⟨Nat.le_refl _, by decide, fun h => absurd h (by omega)⟩
  · injection hv with hA _ hc
    subst hA
    subst hc
    refine ⟨h1, h2, fun _ => ⟨g, 0, cur, rfl, hb, hg, by omega, fun j hj => ?_⟩⟩
    rw [Nat.zero_add, ← h4, List.getElem?_take, if_pos hj]
    simp
theorem FreeN.keep (h : FreeN sz w base e A n c xs) (hk : ∀ k, foot A c = some k → w'.heap[k]? = w.heap[k]?) : FreeN sz w' base e A n c xs := by
  refine ⟨h.1, h.2.1, h.2.2.1, fun hc => ?_⟩
  obtain ⟨g, off, cur, rfl, hb, hB, hs⟩ := h.2.2.2 hc
  exact ⟨g, off, cur, rfl, hb, (hk g (by unfold foot; rw [if_pos hc]; rfl)).trans hB, hs⟩
theorem FreeN.on (h : FreeN sz w base e A n c xs) (hb : Below w.heap.size w w') : FreeN sz w' base e A n c xs := h.keep fun k hk => by
  obtain ⟨_, cur, hB⟩ := h.foot_at k hk
  exact hb.block _ hB.lt
theorem FreeN.mono {base' : Nat} (h : FreeN sz w base e A n c xs) (hb : base' ≤ base) : FreeN sz w base' e A n c xs := by
  refine ⟨h.1, h.2.1, h.2.2.1, fun hc => ?_⟩
  obtain ⟨g, off, cur, hA, hg, hs⟩ := h.2.2.2 hc
  exact ⟨g, off, cur, hA, by omega, hs⟩
theorem FreeN.grown {row : Option Nat} (h : FreeN sz w base e A n c xs) (hg : w.grownBy w' row) (hn : ∀ k, foot A c = some k → some k ≠ row) : FreeN sz w' base e A n c xs :=
  h.keep fun k hk => by
    obtain ⟨_, cur, hB⟩ := h.foot_at k hk
    exact hg.block _ hB.lt (hn k hk)
theorem FreeN.far (h : FreeN sz w base e A n c xs) {p : Addr} (hp : ∀ k, foot A c = some k → k ≠ p.block) (u : Value) : FreeN sz (w.setCell p u) base e A n c xs :=
  h.keep fun k hk => Below.heap_setCell w p u _ (hp k hk)
/-- 's[:k:k]' -/
theorem FreeN.cut {k : Nat} (h : FreeN sz w base e A n c xs) (hk : k ≤ n) : FreeN sz w base e A k k (xs.take (k * sz)) := by
  have hkm : k * sz ≤ n * sz := Nat.mul_le_mul_right sz hk
  refine ⟨by rw [List.length_take, h.1]; omega, Nat.le_refl _, by have := h.2.1; have := h.2.2.1; omega, fun hc => ?_⟩
  obtain ⟨g, off, cur, hA, hb, hB, hs, hx⟩ := h.2.2.2 (by have := h.2.1; omega)
  have hkc : k * sz ≤ c * sz := Nat.mul_le_mul_right sz (by have := h.2.1; omega)
  exact ⟨g, off, cur, hA, hb, hB, by omega, fun j hj => by rw [hx j (by omega), List.getElem?_take, if_pos hj]⟩
theorem foot_cut (A : Option Addr) (c k : Nat) (hk : k ≤ c) : foot A k = foot A c ∨ foot A k = none := by
  unfold foot
  by_cases h : 0 < k
  · left
    rw [if_pos h, if_pos (by omega)]
  · right
    rw [if_neg h]
/-- cells of a block, set one by one, leave the rest of it -/
theorem Sees.srcN {P : Program} {B m : Nat} {news : List Value} {tx e' : TypeId} (hk : P.underlying tx = some (.slice e')) (hsz : 0 < sz) (h : Sees w B A (m * sz) news) (h1 : ∀ u ∈ news, u.oneCell' = true) : Src P sz tx (.slice A m c) m news w := by
  rcases Nat.eq_zero_or_pos m with hm | hm
  · subst hm
    have hn : news = [] := List.eq_nil_of_length_eq_zero (by have := h.1; omega)
    subst hn
    cases A with
    | none => exact Src.ofNil w hk c
    | some a => exact Src.ofSlice w hk a 0 c [] (by simp) (fun j u hu => by simp at hu) (fun _ h => by cases h)
  · obtain ⟨b, off, rfl, _, hc⟩ := h.2 (Nat.mul_pos hm hsz)
    exact Src.ofSlice w hk _ m c news h.1 (fun j u hu => by rw [Addr.add_lit]; exact hc j u hu) h1

/-- what an append onto such a slice leaves -/
def AppendedN (sz : Nat) (w : World) (base : Nat) (e : TypeId) (A : Option Addr) (n c : Nat) (xs : List Value) (m : Nat) (news : List Value) (A' : Option Addr) (c' : Nat) (w' : World) : Prop :=
  FreeN sz w' base e A' (n + m) c' (xs ++ news) ∧ w.grownBy w' (foot A c) ∧ (foot A' c' = foot A c ∨ ∃ k, foot A' c' = some k ∧ w.heap.size ≤ k)

theorem AppendedN.below {B m c' : Nat} {w0 : World} {news : List Value} {A' : Option Addr} (h : AppendedN sz w base e A n c xs m news A' c' w') (h0 : FreeN sz w base e A n c xs) (hb : Below B w0 w) (hB : B ≤ w.heap.size) (hbase : B ≤ base) : Below B w0 w' :=
  hb.grown h.2.1 hB (fun k hk => Nat.le_trans hbase (h0.foot_at k hk).1)
/-- a draw is no change -/
theorem AppendedN.same {W : World} {m c' : Nat} {news : List Value} {A' : Option Addr} (h : AppendedN sz W base e A n c xs m news A' c' w') (h1 : W.os = w.os) (h2 : W.tape = w.tape) (h3 : W.output = w.output) (h4 : W.heap = w.heap) : AppendedN sz w base e A n c xs m news A' c' w' := by
  obtain ⟨k1, k2, k3⟩ := h
  exact ⟨k1, ⟨k2.os.trans h1, k2.tape.trans h2, k2.output.trans h3, by rw [← h4]; exact k2.size, fun k hk hne => by rw [← h4]; exact k2.block k (by rw [h4]; exact hk) hne⟩, by rw [← h4]; exact k3⟩

theorem append_freeN {P : Program} (w : World) (base : Nat) (t ty e : TypeId) (i : TypeInfo) (z : Value) (bytes : Nat) (ht : P.underlying t = some (.slice e)) (hi : P.info? e = some i) (hz : i.zero = some z)
    (hsize : i.size = sz) (hby : i.bytes = bytes) (hzs : z.cells.size = sz) (hsz : 0 < sz)
    (A : Option Addr) (n c : Nat) (xs : List Value) (hown : FreeN sz w base e A n c xs)
    (B : Nat) (A2 : Option Addr) (m c2 : Nat) (news : List Value) (hr : Sees w B A2 (m * sz) news) (h1 : ∀ u ∈ news, u.oneCell' = true)
    (h63 : n + m ≤ maxLen) (hbytes : (n + m) * bytes ≤ 140737488355328) (hbase : base ≤ w.heap.size) :
    ∃ A' c' w', (Builtin.append_ #[t, t] ty #[.slice A n c, .slice A2 m c2]).run P w = .ok (.slice A' (n + m) c') w' ∧ AppendedN sz w base e A n c xs m news A' c' w' := by
  have hsrc : Src P i.size t (.slice A2 m c2) m news w := by rw [hsize]; exact hr.srcN ht hsz h1
  rcases Nat.eq_zero_or_pos m with hm | hm
  · subst hm
    have hn : news = [] := List.eq_nil_of_length_eq_zero (by have := hr.1; omega)
    subst hn
    exact ⟨A, c, w, run_append_nothing w t t ty e i ht hi A n c hown.2.1 _ hsrc, by simpa using hown, gb_refl _ _, .inl rfl⟩
  · have hms : 0 < m * sz := Nat.mul_pos hm hsz
    rcases Nat.lt_or_ge c (n + m) with hg | hroom
    · have hfin : ∀ (v' : Value) (w' : World), w'.ownsRow w.heap.size e sz v' (n + m) (xs ++ news) → w.grownBy w' none → ∃ A' c', v' = .slice A' (n + m) c' ∧ AppendedN sz w base e A n c xs m news A' c' w' := by
        intro v' w' ho hgr
        rcases ho.2 with ⟨_, h0⟩ | ⟨g, cap, cur, rfl, hb, hx1, hx2, hx3, hx4, hx5⟩
        · omega
        · refine ⟨_, cap, rfl, (FreeN.of_own ho).mono hbase, gb_any hgr _, .inr ⟨g, ?_, hb⟩⟩
          unfold foot
          rw [if_pos (by omega)]
          rfl
      cases A with
      | none =>
        have hc0 : c = 0 := by
          rcases Nat.eq_zero_or_pos c with h | h
          · exact h
          · obtain ⟨_, _, _, h, _⟩ := hown.2.2.2 h
            cases h
        subst hc0
        have hn0 : n = 0 := by have := hown.2.1; omega
        subst hn0
        have hx : xs = [] := List.eq_nil_of_length_eq_zero (by have := hown.1; omega)
        subst hx
        obtain ⟨b2, off2, rfl, _, hc2⟩ := hr.2 hms
        obtain ⟨v', w', hrun, r1, r2, _⟩ := run_append_own (P := P) w w.heap.size t ty e i z sz bytes ht hi hz hsize hby hzs hsz (.slice none 0 0) 0 [] (World.ownsRow_nil w _ e sz) ⟨b2, off2, none⟩ m c2 news hr.1 (fun j u hu => by rw [Addr.add_lit]; exact hc2 j u hu) h1 h63 hbytes (Nat.le_refl _)
        obtain ⟨A', c', rfl, hA⟩ := hfin v' w' r1 r2
        exact ⟨A', c', w', hrun, hA⟩
      | some a =>
        obtain ⟨b2, off2, rfl, _, hc2⟩ := hr.2 hms
        obtain ⟨v', w', hrun, r1, r2⟩ := run_append_arg_grows (P := P) w t ty e i z sz bytes ht hi hz hsize hby hzs hsz a n c xs hown.1 (fun j u hu => by
          have hj : j < n * sz := by have := (List.getElem?_eq_some_iff.1 hu).1; have := hown.1; omega
          obtain ⟨b, off, hA, _, hcell⟩ := hown.sees.2 (by omega)
          injection hA with hA
          subst hA
          rw [Addr.add_lit]
          exact hcell j u hu) ⟨b2, off2, none⟩ m c2 news hr.1 (fun j u hu => by rw [Addr.add_lit]; exact hc2 j u hu) hg h63 hbytes
        obtain ⟨A', c', rfl, hA⟩ := hfin v' w' r1 r2
        exact ⟨A', c', w', hrun, hA⟩
    · have hcp : 0 < c := by omega
      obtain ⟨g, off, cur, rfl, hb, hB, hs, hx⟩ := hown.2.2.2 hcp
      have hml : news.length = m * sz := hr.1
      have hnm : (n + m) * sz ≤ c * sz := Nat.mul_le_mul_right sz hroom
      rw [Nat.add_mul] at hnm
      obtain ⟨cur', b1, b2, b3, b4⟩ := Blk.sets news (off + n * sz) w cur hB (by omega)
      have hrun := run_append_room_src (P := P) w t t ty e i ht hi g off n c (.slice A2 m c2) m news hsrc hroom
        (fun j hj => by rw [hB.cell, Array.getElem?_eq_getElem (by rw [hsize]; omega)]; rfl) (fun j hj => hB.frozen _)
      rw [hsize] at hrun
      refine ⟨_, _, _, hrun, ⟨by rw [List.length_append, hown.1, hml, Nat.add_mul], hroom, hown.2.2.1, fun _ => ⟨g, off, cur', rfl, hb, b1, by omega, fun j hj => ?_⟩⟩, ?_, .inl rfl⟩
      · rw [Nat.add_mul] at hj
        by_cases hjn : j < n * sz
        · rw [b3 _ (by omega), hx j hjn, List.getElem?_append_left (by have := hown.1; omega)]
        · rw [List.getElem?_append_right (by have := hown.1; omega), hown.1, ← b4 (j - n * sz) (by omega)]
          congr 1
          omega
      · unfold foot
        rw [if_pos hcp]
        exact gb_sets _ _ _ (gb_refl _ _)

theorem wpList_append_freeN {P : Program} (w : World) {ops : Array Oper} {rest : List Oper} {o : Oper} {a : Act} {Q : Exit → Act → World → Prop} (hgd : o.guard = none) (s x : Operand) (t : TypeId)
    (ho : o.op = .call { callee := .builtin .append, args := #[s, x], argTypes := #[t, t] })
    (base : Nat) (e : TypeId) (i : TypeInfo) (z : Value) (bytes : Nat) (ht : P.underlying t = some (.slice e)) (hi : P.info? e = some i) (hz : i.zero = some z)
    (hsize : i.size = sz) (hby : i.bytes = bytes) (hzs : z.cells.size = sz) (hsz : 0 < sz)
    (A : Option Addr) (n c : Nat) (xs : List Value) (hs : a.eval s = .slice A n c) (hown : FreeN sz w base e A n c xs)
    (B : Nat) (A2 : Option Addr) (m c2 : Nat) (news : List Value) (hx : a.eval x = .slice A2 m c2) (hr : Sees w B A2 (m * sz) news) (h1 : ∀ u ∈ news, u.oneCell' = true)
    (h63 : n + m ≤ maxLen) (hbytes : (n + m) * bytes ≤ 140737488355328) (hbase : base ≤ w.heap.size)
    (h : ∀ A' c' w', AppendedN sz w base e A n c xs m news A' c' w' → wpList P ops Q rest (a.put o.dst (.slice A' (n + m) c')) w') : wpList P ops Q (o :: rest) a w := by
  obtain ⟨A', c', w', hrun, h2⟩ := append_freeN (P := P) w base t o.type e i z bytes ht hi hz hsize hby hzs hsz A n c xs hown B A2 m c2 news hr h1 h63 hbytes hbase
  exact Lib.wpList_append_run w hgd s x t t ho _ _ hs hx _ w' hrun (h A' c' w' h2)
/-- .. at a step of a region that draws -/
theorem step_append_freeN {P : Program} {ops : Array Oper} {o : Oper} {a : Act} {w : World} {K : Act → World → Prop} {Q : Exit → Act → World → Prop} {E : Prop}
    (hg : o.guard = none) (s x : Operand) (t : TypeId) (ho : o.op = Op.call { callee := Callee.builtin Builtin.append, args := #[s, x], argTypes := #[t, t] })
    (base : Nat) (e : TypeId) (i : TypeInfo) (z : Value) (bytes : Nat) (ht : P.underlying t = some (.slice e)) (hi : P.info? e = some i) (hz : i.zero = some z)
    (hsize : i.size = sz) (hby : i.bytes = bytes) (hzs : z.cells.size = sz) (hsz : 0 < sz)
    (A : Option Addr) (n c : Nat) (xs : List Value) (hs : a.eval s = .slice A n c) (hown : FreeN sz w base e A n c xs)
    (B : Nat) (A2 : Option Addr) (m c2 : Nat) (news : List Value) (hx : a.eval x = .slice A2 m c2) (hr : Sees w B A2 (m * sz) news) (h1 : ∀ u ∈ news, u.oneCell' = true)
    (h63 : n + m ≤ maxLen) (hbytes : (n + m) * bytes ≤ 140737488355328) (hbase : base ≤ w.heap.size)
    (h : ∀ A' c' w', AppendedN sz w base e A n c xs m news A' c' w' → K (a.put o.dst (.slice A' (n + m) c')) w') :
    if Region.wanted o (yielded ops a.tmps) = true then Oper.wp P o a w K Q else E := by
  have hw : Region.wanted o (yielded ops a.tmps) = true := by simp [Region.wanted, hg]
  rw [if_pos hw]
  obtain ⟨A', c', w', hrun, h2⟩ := append_freeN (P := P) w base t o.type e i z bytes ht hi hz hsize hby hzs hsz A n c xs hown B A2 m c2 news hr h1 h63 hbytes hbase
  unfold Oper.wp execOp
  simp only [ho, resolve, invoke, builtin, Sem.run_bind, Sem.run_pure, Result.andThen_ok, List.map_toArray, List.map_cons, List.map_nil, hs, hx, hrun]
  exact h A' c' w' h2
end

/-- only block g, the block f, if any, and what is new, has turned -/
structure Moved (g : Nat) (f : Option Nat) (a w : World) : Prop where
  os : w.os = a.os
  tape : w.tape = a.tape
  output : w.output = a.output
  size : a.heap.size ≤ w.heap.size
  block : ∀ k, k < a.heap.size → k ≠ g → some k ≠ f → w.heap[k]? = a.heap[k]?
theorem Moved.refl (g : Nat) (f : Option Nat) (w : World) : Moved g f w w := ⟨rfl, rfl, rfl, Nat.le_refl _, fun _ _ _ _ => rfl⟩
theorem Moved.weaken {g : Nat} {a w : World} (h : Moved g none a w) (f : Option Nat) : Moved g f a w := ⟨h.os, h.tape, h.output, h.size, fun k hk h1 _ => h.block k hk h1 (by simp)⟩
theorem Sees.moved {g n : Nat} {w w' : World} {A : Option Addr} {xs : List Value} (h : Sees w w.heap.size A n xs) (hm : Moved g none w w') (hne : 0 < n → ∀ a, A = some a → a.block ≠ g) : Sees w' w'.heap.size A n xs := by
  refine ⟨h.1, fun hn => ?_⟩
  obtain ⟨b, off, rfl, hb, hc⟩ := h.2 hn
  have := hm.size
  exact ⟨b, off, rfl, by omega, fun j u hu => (World.cell?_of_block (a := ⟨b, off + j, none⟩) (hm.block b hb (hne hn _ rfl) (by simp))).trans (hc j u hu)⟩
theorem Moved.set_ {g : Nat} {f : Option Nat} {a w : World} (h : Moved g f a w) (i : Nat) (u : Value) : Moved g f a (w.setCell ⟨g, i, none⟩ u) :=
  ⟨h.os, h.tape, h.output, by simpa [World.setCell] using h.size, fun k hk h1 h2 => (Below.heap_setCell w _ u k h1).trans (h.block k hk h1 h2)⟩
theorem Moved.grown {g : Nat} {f f' : Option Nat} {a w w' : World} (h : Moved g f a w) (hg : w.grownBy w' f') (hf : ∀ k, f' = some k → f = some k ∨ k = g ∨ a.heap.size ≤ k) : Moved g f a w' :=
  ⟨hg.os.trans h.os, hg.tape.trans h.tape, hg.output.trans h.output, Nat.le_trans h.size hg.size, fun k hk h1 h2 => (hg.block k (Nat.lt_of_lt_of_le hk h.size) (fun e => by
    rcases hf k e.symm with h | h | h
    · exact h2 h.symm
    · exact h1 h
    · omega)).trans (h.block k hk h1 h2)⟩
theorem Moved.on {g : Nat} {f : Option Nat} {a w w' : World} (h : Moved g f a w) (hb : Below w.heap.size w w') : Moved g f a w' :=
  ⟨hb.os.trans h.os, hb.tape.trans h.tape, hb.output.trans h.output, Nat.le_trans h.size hb.size, fun k hk h1 h2 => (hb.block k (Nat.lt_of_lt_of_le hk h.size)).trans (h.block k hk h1 h2)⟩
/-- what was made ahead of it -/
theorem Moved.behind {g : Nat} {f : Option Nat} {a b w : World} (h : Moved g f b w) (hb : Below a.heap.size a b) : Moved g f a w :=
  ⟨h.os.trans hb.os, h.tape.trans hb.tape, h.output.trans hb.output, Nat.le_trans hb.size h.size, fun k hk h1 h2 => (h.block k (Nat.lt_of_lt_of_le hk hb.size) h1 h2).trans (hb.block k hk)⟩
theorem Moved.drew {g : Nat} {f : Option Nat} {a w : World} (h : Moved g f a w) : Moved g f a w.drew := ⟨h.os, h.tape, h.output, h.size, h.block⟩
theorem Moved.below {g : Nat} {f : Option Nat} {a w : World} {B : Nat} (h : Moved g f a w) (hg : B ≤ g) (hf : ∀ k, f = some k → B ≤ k) (hB : B ≤ a.heap.size) : Below B a w :=
  ⟨h.os, h.tape, h.output, h.size, fun k hk => h.block k (by omega) (by omega) (fun e => by have := hf k e.symm; omega)⟩
theorem Moved.blk {g k : Nat} {f : Option Nat} {a w : World} {t : TypeId} {cs : Array Value} (h : Moved g f a w) (hb : Blk a k t cs) (h1 : k ≠ g) (h2 : some k ≠ f) : Blk w k t cs := (h.block k hb.lt h1 h2).trans hb
theorem Blk.type_eq {w : World} {g : Nat} {t t' : TypeId} {cs cs' : Array Value} (h : Blk w g t cs) (h' : Blk w g t' cs') : t = t' := by
  unfold Blk at h h'
  rw [h] at h'
  injection h' with h'
  injection h' with _ ht
theorem Blk.apart {w : World} {g g' : Nat} {t t' : TypeId} {cs cs' : Array Value} (h : Blk w g t cs) (h' : Blk w g' t' cs') (hne : t ≠ t') : g ≠ g' := by
  intro e
  subst e
  exact hne (h.type_eq h')
end Go.Proofs.Ytgioaapflilhhab
