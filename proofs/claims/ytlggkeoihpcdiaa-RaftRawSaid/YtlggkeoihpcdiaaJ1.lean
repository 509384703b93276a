/- Words for slices of bytes in memory, and plain facts on numbers as bytes, that the proofs of this seat share. No program is named. -/
import Derived.Below
import Derived.Laws.OwnMore
import Derived.Deep.Draws
import Derived.Maps.AppendAt
import Derived.Lib.AppendZeros
import Derived.ArgAppend
import Derived.Deep.Upon
import Derived.Laws.BitsAllLaws
import Derived.Laws.BitsLemmas
import Derived.IntWalk
namespace Go.Proofs.Ytlggkeoihpcdiaa
open Go.RowKit

/-! ### bytes -/
/-- the cell of a byte -/
def cb (x : UInt8) : Value := .int .u8 (x.toNat : Int)
/-- the cells of bytes -/
def cbs (l : List UInt8) : List Value := l.map cb

@[simp] theorem cbs_length (l : List UInt8) : (cbs l).length = l.length := by simp [cbs]
@[simp] theorem cbs_nil : cbs [] = [] := rfl
theorem cbs_append (l m : List UInt8) : cbs (l ++ m) = cbs l ++ cbs m := by simp [cbs]
theorem cbs_get (l : List UInt8) (j : Nat) : (cbs l)[j]? = l[j]?.map cb := by simp [cbs]
theorem cbs_one (l : List UInt8) : ∀ u ∈ cbs l, u.oneCell' = true := by
  intro u hu
  obtain ⟨x, _, rfl⟩ := List.mem_map.1 hu
  rfl

theorem text_len (s : ByteArray) : s.data.toList.length = s.size := by rw [Array.length_toList]; rfl

/-- `Sees w B A n xs`: the slice at A of n elements of one cell each holds xs; it lies in a block below B. -/
def Sees (w : World) (B : Nat) (A : Option Addr) (n : Nat) (xs : List Value) : Prop :=
  xs.length = n ∧ (0 < n → ∃ b off, A = some ⟨b, off, none⟩ ∧ b < B ∧ ∀ j u, xs[j]? = some u → w.cell? ⟨b, off + j, none⟩ = some u)

section
variable {w w' : World} {B B' n : Nat} {A : Option Addr} {xs : List Value}
theorem Sees.none_ (w : World) (B : Nat) (A : Option Addr) : Sees w B A 0 [] := ⟨rfl, fun h => absurd h (by omega)⟩
theorem Sees.keep (h : Sees w B A n xs) (hk : ∀ p : Addr, p.block < B → w'.cell? p = w.cell? p) : Sees w' B A n xs :=
  ⟨h.1, fun hn => by
    obtain ⟨b, off, e, hb, hc⟩ := h.2 hn
    exact ⟨b, off, e, hb, fun j u hu => (hk ⟨b, off + j, none⟩ hb).trans (hc j u hu)⟩⟩
theorem Sees.more (h : Sees w B A n xs) (hB : B ≤ B') : Sees w B' A n xs :=
  ⟨h.1, fun hn => by
    obtain ⟨b, off, e, hb, hc⟩ := h.2 hn
    exact ⟨b, off, e, by omega, hc⟩⟩
theorem Sees.below (h : Sees w B A n xs) (hb : Below B w w') : Sees w' B A n xs := h.keep fun _ hp => hb.cell hp
theorem Sees.drew (h : Sees w B A n xs) : Sees w.drew B A n xs := h
theorem Sees.drewN (h : Sees w B A n xs) (k : Nat) : Sees (w.drewN k) B A n xs := h
theorem Sees.alloc (h : Sees w B A n xs) (hB : B ≤ w.heap.size) (o : Obj) : Sees (w.alloc o) B A n xs := h.keep fun p hp => World.cell?_alloc_lt w o p (by omega)
theorem Sees.setCell (h : Sees w B A n xs) {p : Addr} (hB : B ≤ p.block) (u : Value) : Sees (w.setCell p u) B A n xs :=
  h.keep fun q hq => World.cell?_setCell_other w p q u (fun e => by subst e; omega)
theorem Sees.grown (h : Sees w B A n xs) {row : Option Nat} (hg : w.grownBy w' row) (hB : B ≤ w.heap.size) (hr : ∀ g, row = some g → B ≤ g) : Sees w' B A n xs :=
  h.keep fun p hp => World.cell?_of_block (hg.block p.block (by omega) (fun e => by have := hr _ e.symm; omega))
theorem Sees.at_ {k : Nat} (h : Sees w B A n xs) (hk : k < n) : ∃ b off u, A = some ⟨b, off, none⟩ ∧ b < B ∧ xs[k]? = some u ∧ w.cell? ⟨b, off + k, none⟩ = some u := by
  obtain ⟨b, off, e, hb, hc⟩ := h.2 (by omega)
  have hl : k < xs.length := by have := h.1; omega
  exact ⟨b, off, xs[k], e, hb, List.getElem?_eq_getElem hl, hc k _ (List.getElem?_eq_getElem hl)⟩
theorem Sees.of_own {base : Nat} {e : TypeId} {c : Nat} (h : w.ownsRow base e 1 (.slice A n c) n xs) : Sees w w.heap.size A n xs := by
  refine ⟨by simpa using h.1, fun hn => ?_⟩
  rcases h.2 with ⟨_, h0⟩ | ⟨g, cap, cur, hv, _, hg, _⟩
  · omega
  · have hA : A = some ⟨g, 0, none⟩ := by injection hv
    subst hA
    refine ⟨g, 0, rfl, (Array.getElem?_eq_some_iff.1 hg).1, fun j u hu => ?_⟩
    have := h.cells (g := g) rfl j u hu
    have hadd : (⟨g, 0, none⟩ : Addr).add j = ⟨g, 0 + j, none⟩ := by unfold Addr.add; split <;> simp_all
    rwa [hadd] at this
theorem Sees.drop (h : Sees w B A n xs) {k cap : Nat} (hk : k ≤ n) (hc : n ≤ cap) :
    Sees w B (if cap = k then A else A.map (·.add k)) (n - k) (xs.drop k) := by
  refine ⟨by rw [List.length_drop, h.1], fun hn => ?_⟩
  obtain ⟨b, off, rfl, hb, hcell⟩ := h.2 (by omega)
  rw [if_neg (by omega)]
  refine ⟨b, off + k, ?_, hb, fun j u hu => ?_⟩
  · simp only [Option.map_some, Option.some.injEq, Addr.add]
    split <;> simp_all
  · rw [show off + k + j = off + (k + j) from by omega]
    exact hcell _ u (by rw [← hu, List.getElem?_drop])
theorem Sees.take (h : Sees w B A n xs) {k : Nat} (hk : k ≤ n) : Sees w B A k (xs.take k) := by
  refine ⟨by rw [List.length_take, h.1]; omega, fun hn => ?_⟩
  obtain ⟨b, off, rfl, hb, hcell⟩ := h.2 (by omega)
  refine ⟨b, off, rfl, hb, fun j u hu => hcell j u ?_⟩
  rw [List.getElem?_take] at hu
  split at hu
  · exact hu
  · cases hu
end

/-- a row that was just made -/
theorem sees_new (w : World) (cs : Array Value) (t : TypeId) : Sees (w.alloc (.cells cs t)) (w.alloc (.cells cs t)).heap.size (some ⟨w.heap.size, 0, none⟩) cs.size cs.toList := by
  refine ⟨by simp, fun _ => ⟨w.heap.size, 0, rfl, by simp, fun j u hu => ?_⟩⟩
  rw [cell_of_row _ w.heap.size (0 + j) cs t (0, 0) (heap_alloc_new w _), Nat.zero_add]
  simpa using hu
theorem sees_new_at (w : World) (g : Nat) (cs : Array Value) (t : TypeId) (hg : g = w.heap.size) : Sees (w.alloc (.cells cs t)) (w.alloc (.cells cs t)).heap.size (some ⟨g, 0, none⟩) cs.size cs.toList := by
  subst hg
  exact sees_new w cs t
/-- a slice that was there is there behind a new block -/
theorem Sees.past {w : World} {A : Option Addr} {n : Nat} {xs : List Value} (h : Sees w w.heap.size A n xs) (o : Obj) : Sees (w.alloc o) (w.alloc o).heap.size A n xs :=
  (h.alloc (Nat.le_refl _) o).more (by simp)
/-- .. and in a world that is as it was below -/
theorem Sees.on {w w' : World} {A : Option Addr} {n : Nat} {xs : List Value} (h : Sees w w.heap.size A n xs) (hb : Below w.heap.size w w') : Sees w' w'.heap.size A n xs :=
  (h.below hb).more hb.size

/-! ### a block that is known whole -/
def Blk (w : World) (g : Nat) (t : TypeId) (cs : Array Value) : Prop := w.heap[g]? = some (.cells cs t (0, 0))

section
variable {w w' : World} {g : Nat} {t : TypeId} {cs : Array Value}
theorem Blk.lt (h : Blk w g t cs) : g < w.heap.size := (Array.getElem?_eq_some_iff.1 h).1
theorem Blk.cell (h : Blk w g t cs) (i : Nat) : w.cell? ⟨g, i, none⟩ = cs[i]? := cell_of_row w g i cs t (0, 0) h
theorem Blk.frozen (h : Blk w g t cs) (i : Nat) : w.frozen? ⟨g, i, none⟩ = false := by
  unfold Blk at h
  simp [World.frozen?, h]
theorem Blk.new (w : World) (t : TypeId) (cs : Array Value) : Blk (w.alloc (.cells cs t)) w.heap.size t cs := heap_alloc_new w _
theorem Blk.drew (h : Blk w g t cs) : Blk w.drew g t cs := h
theorem Blk.drewN (h : Blk w g t cs) (n : Nat) : Blk (w.drewN n) g t cs := h
theorem Blk.alloc (h : Blk w g t cs) (o : Obj) : Blk (w.alloc o) g t cs := (Below.heap_alloc w o g h.lt).trans h
theorem Blk.set_ (h : Blk w g t cs) (i : Nat) (u : Value) : Blk (w.setCell ⟨g, i, none⟩ u) g t (cs.setIfInBounds i u) := by
  unfold Blk at h ⊢
  simp [World.setCell, Array.getElem?_modify, h]
theorem Blk.far (h : Blk w g t cs) {p : Addr} (hp : g ≠ p.block) (u : Value) : Blk (w.setCell p u) g t cs := (Below.heap_setCell w p u g hp).trans h
theorem Blk.below {B : Nat} (h : Blk w g t cs) (hb : Below B w w') (hg : g < B) : Blk w' g t cs := (hb.block g hg).trans h
theorem Blk.grown {row : Option Nat} (h : Blk w g t cs) (hb : w.grownBy w' row) (hg : some g ≠ row) : Blk w' g t cs := (hb.block g h.lt hg).trans h
end

/-! ### only one block, and what is new, has turned -/
theorem gb_refl (w : World) (r : Option Nat) : w.grownBy w r := ⟨rfl, rfl, rfl, Nat.le_refl _, fun _ _ _ => rfl⟩
theorem gb_trans {a b c : World} {r : Option Nat} (h : a.grownBy b r) (k : b.grownBy c r) : a.grownBy c r :=
  ⟨k.os.trans h.os, k.tape.trans h.tape, k.output.trans h.output, Nat.le_trans h.size k.size, fun i hi hn => (k.block i (Nat.lt_of_lt_of_le hi h.size) hn).trans (h.block i hi hn)⟩
theorem gb_drew {a w : World} {r : Option Nat} (h : a.grownBy w r) : a.grownBy w.drew r := ⟨h.os, h.tape, h.output, h.size, h.block⟩
theorem gb_drewN {a w : World} {r : Option Nat} (h : a.grownBy w r) (n : Nat) : a.grownBy (w.drewN n) r := ⟨h.os, h.tape, h.output, h.size, h.block⟩
theorem gb_alloc {a w : World} {r : Option Nat} (h : a.grownBy w r) (o : Obj) : a.grownBy (w.alloc o) r :=
  ⟨h.os, h.tape, h.output, Nat.le_trans h.size (by simp), fun i hi hne => (Below.heap_alloc w o i (Nat.lt_of_lt_of_le hi h.size)).trans (h.block i hi hne)⟩
theorem gb_set {a w : World} {g : Nat} (h : a.grownBy w (some g)) (i : Nat) (u : Value) : a.grownBy (w.setCell ⟨g, i, none⟩ u) (some g) :=
  ⟨h.os, h.tape, h.output, by simpa [World.setCell] using h.size, fun k hi hne => (Below.heap_setCell w _ u k (fun e => hne (by simp at e; rw [e]))).trans (h.block k hi hne)⟩
theorem gb_below {a b w : World} {r : Option Nat} (h : a.grownBy b r) (hb : Below b.heap.size b w) : a.grownBy w r :=
  ⟨hb.os.trans h.os, hb.tape.trans h.tape, hb.output.trans h.output, Nat.le_trans h.size hb.size, fun i hi hn => (hb.block i (Nat.lt_of_lt_of_le hi h.size)).trans (h.block i hi hn)⟩
theorem below_drewN {B : Nat} {a w : World} (h : Below B a w) (n : Nat) : Below B a (w.drewN n) := ⟨h.os, h.tape, h.output, h.size, h.block⟩
/-- a block of the call's own that turned is no old one -/
theorem below_gb {a b c : World} {B g : Nat} (h : Below B a b) (hg : b.grownBy c (some g)) (hB : B ≤ g) (hz : B ≤ b.heap.size) : Below B a c :=
  h.grown hg hz (fun k e => by injection e with e; omega)

/-- one call behind the other: what was there is as it was -/
theorem bthen {a b c : World} (h : Below a.heap.size a b) (k : Below b.heap.size b c) : Below a.heap.size a c := h.trans (k.mono h.size)

/-- append onto a row of the call's own, whatever slice is appended: its run. -/
theorem append_sees {P : Program} (w : World) (base : Nat) (t ty e : TypeId) (i : TypeInfo) (z : Value) (bytes : Nat) (ht : P.underlying t = some (.slice e)) (hi : P.info? e = some i) (hz : i.zero = some z)
    (hsize : i.size = 1) (hby : i.bytes = bytes) (hzs : z.cells.size = 1)
    (v : Value) (n : Nat) (xs : List Value) (hown : w.ownsRow base e 1 v n xs)
    (B : Nat) (A : Option Addr) (m c : Nat) (news : List Value) (hr : Sees w B A m news) (h1 : ∀ u ∈ news, u.oneCell' = true)
    (h63 : n + m ≤ maxLen) (hbytes : (n + m) * bytes ≤ 140737488355328) (hbase : base ≤ w.heap.size) :
    ∃ v' w', (Builtin.append_ #[t, t] ty #[v, .slice A m c]).run P w = .ok v' w' ∧ w'.ownsRow base e 1 v' (n + m) (xs ++ news) ∧ w.grownBy w' v.ownBlock ∧
      (v'.ownBlock = v.ownBlock ∨ v'.ownBlock = some w.heap.size) := by
  rcases Nat.eq_zero_or_pos m with hm | hm
  · subst hm
    have hn : news = [] := List.eq_nil_of_length_eq_zero hr.1
    subst hn
    refine ⟨v, w, ?_, by simpa using hown, gb_refl w _, .inl rfl⟩
    rcases hown.2 with ⟨rfl, rfl⟩ | ⟨g, cap, cur, rfl, _, hg, hnc, _, hcs, _⟩
    · cases A <;> simp [Builtin.append_, run_underlying ht, sizeOf, typeInfo, hi, Builtin.lenOf, Builtin.firstCells, loadCells, loadCellsFrom]
    · cases A <;> simp [Builtin.append_, run_underlying ht, sizeOf, typeInfo, hi, Builtin.lenOf, Builtin.firstCells, hnc, storeCells, loadCells, loadCellsFrom]
  · obtain ⟨b, off, rfl, hb, hc⟩ := hr.2 hm
    obtain ⟨v', w', hrun, h2, h3, _, h5⟩ := run_append_own_at (P := P) w base t ty e i z 1 bytes ht hi hz hsize hby hzs (by omega) v n xs hown ⟨b, off, none⟩ m c news (by rw [hr.1]; omega)
      (fun j u hu => by
        have := hc j u hu
        unfold Addr.add
        split
        · rename_i h0
          subst h0
          exact this
        · exact this) h1 h63 hbytes hbase
    exact ⟨v', w', hrun, h2, h3, h5⟩

theorem wpList_append_sees {P : Program} (w : World) {ops : Array Oper} {rest : List Oper} {o : Oper} {a : Act} {Q : Exit → Act → World → Prop} (hgd : o.guard = none) (s x : Operand) (t : TypeId)
    (ho : o.op = .call { callee := .builtin .append, args := #[s, x], argTypes := #[t, t] })
    (base : Nat) (e : TypeId) (i : TypeInfo) (z : Value) (bytes : Nat) (ht : P.underlying t = some (.slice e)) (hi : P.info? e = some i) (hz : i.zero = some z)
    (hsize : i.size = 1) (hby : i.bytes = bytes) (hzs : z.cells.size = 1)
    (v : Value) (n : Nat) (xs : List Value) (hs : a.eval s = v) (hown : w.ownsRow base e 1 v n xs)
    (B : Nat) (A : Option Addr) (m c : Nat) (news : List Value) (hx : a.eval x = .slice A m c) (hr : Sees w B A m news) (h1 : ∀ u ∈ news, u.oneCell' = true)
    (h63 : n + m ≤ maxLen) (hbytes : (n + m) * bytes ≤ 140737488355328) (hbase : base ≤ w.heap.size)
    (h : ∀ v' w', w'.ownsRow base e 1 v' (n + m) (xs ++ news) → w.grownBy w' v.ownBlock → (v'.ownBlock = v.ownBlock ∨ v'.ownBlock = some w.heap.size) → wpList P ops Q rest (a.put o.dst v') w') : wpList P ops Q (o :: rest) a w := by
  obtain ⟨v', w', hrun, h2, h3, h4⟩ := append_sees (P := P) w base t o.type e i z bytes ht hi hz hsize hby hzs v n xs hown B A m c news hr h1 h63 hbytes hbase
  exact Lib.wpList_append_run w hgd s x t t ho v _ hs hx v' w' hrun (h v' w' h2 h3 h4)

/-- the value of an owned row is a slice -/
theorem own_form {w : World} {base : Nat} {e : TypeId} {v : Value} {n : Nat} {xs : List Value} (h : w.ownsRow base e 1 v n xs) : ∃ A c, v = .slice A n c ∧ n ≤ c ∧ c ≤ maxLen := by
  rcases h.2 with ⟨rfl, rfl⟩ | ⟨g, cap, cur, rfl, _, _, h1, h2, _⟩
  · exact ⟨none, 0, rfl, Nat.le_refl _, by simp [maxLen]⟩
  · exact ⟨_, _, rfl, h1, h2⟩
end Go.Proofs.Ytlggkeoihpcdiaa

/- Words for slices that may be written and appended to, wherever they begin in their row. No program is named. -/
namespace Go.Proofs.Ytlggkeoihpcdiaa
open Go.RowKit

/-- a slice of elements of one cell each, in a row from block `base` on that may be written: n elements, room for c -/
def Free (w : World) (base : Nat) (e : TypeId) (A : Option Addr) (n c : Nat) (xs : List Value) : Prop :=
  xs.length = n ∧ n ≤ c ∧ c ≤ maxLen ∧ (0 < c → ∃ g off cur, A = some ⟨g, off, none⟩ ∧ base ≤ g ∧ Blk w g e cur ∧ off + c ≤ cur.size ∧ ∀ j, j < n → cur[off + j]? = xs[j]?)

section
variable {w w' : World} {base n c : Nat} {e : TypeId} {A : Option Addr} {xs : List Value}
theorem Free.nil (w : World) (base : Nat) (e : TypeId) : Free w base e none 0 0 [] := ⟨rfl, Nat.le_refl _, by decide, fun h => absurd h (by omega)⟩
theorem Free.sees (h : Free w base e A n c xs) : Sees w w.heap.size A n xs := by
  refine ⟨h.1, fun hn => ?_⟩
  obtain ⟨g, off, cur, rfl, _, hb, _, hc⟩ := h.2.2.2 (by have := h.2.1; omega)
  refine ⟨g, off, rfl, hb.lt, fun j u hu => ?_⟩
  rw [hb.cell, hc j (by have := (List.getElem?_eq_some_iff.1 hu).1; have := h.1; omega)]
  exact hu
theorem Free.of_own (h : w.ownsRow base e 1 (.slice A n c) n xs) : Free w base e A n c xs := by
  refine ⟨by simpa using h.1, ?_⟩
  rcases h.2 with ⟨hv, rfl⟩ | ⟨g, cap, cur, hv, hb, hg, h1, h2, h3, h4⟩
  · injection hv with _ _ h2
    subst h2
    exact ⟨Nat.le_refl _, by decide, fun h => absurd h (by omega)⟩
  · injection hv with hA _ hc
    subst hA
    subst hc
    refine ⟨h1, h2, fun _ => ⟨g, 0, cur, rfl, hb, hg, by omega, fun j hj => ?_⟩⟩
    rw [Nat.zero_add, ← h4, List.getElem?_take, if_pos (by omega)]
    simp
theorem Free.keep (h : Free w base e A n c xs) (hk : ∀ a, A = some a → base ≤ a.block → a.block < w.heap.size → w'.heap[a.block]? = w.heap[a.block]?) : Free w' base e A n c xs := by
  refine ⟨h.1, h.2.1, h.2.2.1, fun hc => ?_⟩
  obtain ⟨g, off, cur, hA, hb, hB, hs⟩ := h.2.2.2 hc
  exact ⟨g, off, cur, hA, hb, (hk _ hA hb hB.lt).trans hB, hs⟩
theorem Free.below {B : Nat} (h : Free w base e A n c xs) (hb : Below B w w') (hB : w.heap.size ≤ B) : Free w' base e A n c xs := h.keep fun _ _ _ hl => hb.block _ (by omega)
theorem Free.on (h : Free w base e A n c xs) (hb : Below w.heap.size w w') : Free w' base e A n c xs := h.below hb (Nat.le_refl _)
theorem Free.drew (h : Free w base e A n c xs) : Free w.drew base e A n c xs := h
theorem Free.alloc (h : Free w base e A n c xs) (o : Obj) : Free (w.alloc o) base e A n c xs := h.keep fun _ _ _ hl => Below.heap_alloc w o _ hl
theorem Free.grown {row : Option Nat} (h : Free w base e A n c xs) (hg : w.grownBy w' row) (hn : ∀ a, A = some a → base ≤ a.block → a.block < w.heap.size → some a.block ≠ row) : Free w' base e A n c xs :=
  h.keep fun a hA hb hl => hg.block _ hl (hn a hA hb hl)
theorem Free.far (h : Free w base e A n c xs) {p : Addr} (hp : ∀ a, A = some a → base ≤ a.block → a.block ≠ p.block) (u : Value) : Free (w.setCell p u) base e A n c xs :=
  h.keep fun a hA hb _ => Below.heap_setCell w p u _ (hp a hA hb)
theorem Free.mono {base' : Nat} (h : Free w base e A n c xs) (hb : base' ≤ base) : Free w base' e A n c xs := by
  refine ⟨h.1, h.2.1, h.2.2.1, fun hc => ?_⟩
  obtain ⟨g, off, cur, hA, hg, hs⟩ := h.2.2.2 hc
  exact ⟨g, off, cur, hA, by omega, hs⟩
theorem Free.take {k : Nat} (h : Free w base e A n c xs) (hk : k ≤ n) : Free w base e A k c (xs.take k) := by
  refine ⟨by rw [List.length_take, h.1]; omega, by have := h.2.1; omega, h.2.2.1, fun hc => ?_⟩
  obtain ⟨g, off, cur, hA, hb, hB, hs, hx⟩ := h.2.2.2 hc
  exact ⟨g, off, cur, hA, hb, hB, hs, fun j hj => by rw [hx j (by omega), List.getElem?_take, if_pos hj]⟩
theorem Free.drop {k : Nat} (h : Free w base e A n c xs) (hk : k ≤ n) : Free w base e (if c = k then A else A.map (·.add k)) (n - k) (c - k) (xs.drop k) := by
  refine ⟨by rw [List.length_drop, h.1], by have := h.2.1; omega, by have := h.2.2.1; omega, fun hc => ?_⟩
  obtain ⟨g, off, cur, rfl, hb, hB, hs, hx⟩ := h.2.2.2 (by omega)
  rw [if_neg (by omega)]
  refine ⟨g, off + k, cur, ?_, hb, hB, by omega, fun j hj => ?_⟩
  · simp only [Option.map_some, Option.some.injEq, Addr.add]
    split <;> simp_all
  · rw [show off + k + j = off + (k + j) from by omega, hx (k + j) (by omega), List.getElem?_drop]
theorem Free.at_ {k : Nat} (h : Free w base e A n c xs) (hk : k < n) : ∃ g off u, A = some ⟨g, off, none⟩ ∧ base ≤ g ∧ g < w.heap.size ∧ xs[k]? = some u ∧ w.cell? ⟨g, off + k, none⟩ = some u ∧ w.frozen? ⟨g, off + k, none⟩ = false := by
  obtain ⟨g, off, cur, rfl, hb, hB, hs, hx⟩ := h.2.2.2 (by have := h.2.1; omega)
  have hl : k < xs.length := by have := h.1; omega
  exact ⟨g, off, xs[k], rfl, hb, hB.lt, List.getElem?_eq_getElem hl, by rw [hB.cell, hx k hk]; exact List.getElem?_eq_getElem hl, hB.frozen _⟩
/-- an element is stored -/
theorem Free.put {g off k : Nat} (h : Free w base e (some ⟨g, off, none⟩) n c xs) (u : Value) (hk : k < n) : Free (w.setCell ⟨g, off + k, none⟩ u) base e (some ⟨g, off, none⟩) n c (xs.set k u) := by
  refine ⟨by rw [List.length_set]; exact h.1, h.2.1, h.2.2.1, fun hc => ?_⟩
  obtain ⟨g', off', cur, hA, hb, hB, hs, hx⟩ := h.2.2.2 hc
  injection hA with hA
  injection hA with h1 h2
  subst h1
  subst h2
  refine ⟨g, off, _, rfl, hb, hB.set_ (off + k) u, by simpa using hs, fun j hj => ?_⟩
  rw [Array.getElem?_setIfInBounds, List.getElem?_set]
  by_cases e : k = j
  · subst e
    rw [if_pos rfl, if_pos rfl, if_pos (by have := h.2.1; omega), if_pos (by have := h.1; omega)]
  · rw [if_neg (by omega), if_neg e]
    exact hx j hj

/-! ### cells of a block, set one by one -/
theorem Blk.sets {g : Nat} : ∀ (vs : List Value) (o : Nat) (w : World) (cur : Array Value), Blk w g e cur → o + vs.length ≤ cur.size →
    ∃ cur', Blk (w.setCells g o vs) g e cur' ∧ cur'.size = cur.size ∧ (∀ i, (i < o ∨ o + vs.length ≤ i) → cur'[i]? = cur[i]?) ∧ ∀ j, j < vs.length → cur'[o + j]? = vs[j]? := by
  intro vs
  induction vs with
  | nil => intro o w cur hb _; exact ⟨cur, hb, rfl, fun _ _ => rfl, fun j hj => absurd hj (by simp)⟩
  | cons v r ih =>
    intro o w cur hb hl
    simp only [List.length_cons] at hl
    obtain ⟨cur', h1, h2, h3, h4⟩ := ih (o + 1) (w.setCell ⟨g, o, none⟩ v) _ (hb.set_ o v) (by simp; omega)
    refine ⟨cur', h1, by simpa using h2, fun i hi => ?_, fun j hj => ?_⟩
    · simp only [List.length_cons] at hi
      rw [h3 i (by omega), Array.getElem?_setIfInBounds, if_neg (by omega)]
    · rcases j with _ | j
      · rw [h3 (o + 0) (by omega), Array.getElem?_setIfInBounds, if_pos (by omega), if_pos (by omega)]
        rfl
      · rw [show o + (j + 1) = o + 1 + j from by omega, h4 j (by simp at hj; omega)]
        rfl
theorem gb_sets {a : World} {g : Nat} : ∀ (vs : List Value) (o : Nat) (w : World), a.grownBy w (some g) → a.grownBy (w.setCells g o vs) (some g)
  | [], _, _, h => h
  | v :: r, o, _, h => gb_sets r (o + 1) _ (gb_set h o v)
end

/-- where a slice's elements are known to be -/
theorem Sees.src {P : Program} {w : World} {B m c : Nat} {A : Option Addr} {news : List Value} {tx e' : TypeId} (hk : P.underlying tx = some (.slice e')) (h : Sees w B A m news) (h1 : ∀ u ∈ news, u.oneCell' = true) : Src P 1 tx (.slice A m c) m news w := by
  rcases Nat.eq_zero_or_pos m with hm | hm
  · subst hm
    have hn : news = [] := List.eq_nil_of_length_eq_zero h.1
    subst hn
    cases A with
    | none => exact Src.ofNil w hk c
    | some a => exact Src.ofSlice w hk a 0 c [] (by simp) (fun j u hu => by simp at hu) (fun _ h => by cases h)
  · obtain ⟨b, off, rfl, _, hc⟩ := h.2 hm
    exact Src.ofSlice w hk _ m c news (by rw [h.1]; omega) (fun j u hu => by rw [Addr.add_lit]; exact hc j u hu) h1

/-- what an append onto such a slice leaves -/
def Appended (w : World) (base : Nat) (e : TypeId) (A : Option Addr) (n c : Nat) (xs : List Value) (m : Nat) (news : List Value) (A' : Option Addr) (c' : Nat) (w' : World) : Prop :=
  Free w' base e A' (n + m) c' (xs ++ news) ∧ Free w' base e A n c xs ∧ w.grownBy w' (A.map (·.block)) ∧ ((A' = A ∧ c' = c ∧ n + m ≤ c ∧ (c = 0 → w' = w)) ∨ (w.grownBy w' none ∧ ∃ g, A' = some ⟨g, 0, none⟩ ∧ w.heap.size ≤ g))
theorem gb_any {w w' : World} (h : w.grownBy w' none) (r : Option Nat) : w.grownBy w' r := ⟨h.os, h.tape, h.output, h.size, fun i hi _ => h.block i hi (by simp)⟩

theorem append_free {P : Program} (w : World) (base : Nat) (t ty e : TypeId) (i : TypeInfo) (z : Value) (bytes : Nat) (ht : P.underlying t = some (.slice e)) (hi : P.info? e = some i) (hz : i.zero = some z)
    (hsize : i.size = 1) (hby : i.bytes = bytes) (hzs : z.cells.size = 1)
    (A : Option Addr) (n c : Nat) (xs : List Value) (hown : Free w base e A n c xs) (h1x : ∀ u ∈ xs, u.oneCell' = true)
    (B : Nat) (A2 : Option Addr) (m c2 : Nat) (news : List Value) (hr : Sees w B A2 m news) (h1 : ∀ u ∈ news, u.oneCell' = true)
    (h63 : n + m ≤ maxLen) (hbytes : (n + m) * bytes ≤ 140737488355328) (hbase : base ≤ w.heap.size) :
    ∃ A' c' w', (Builtin.append_ #[t, t] ty #[.slice A n c, .slice A2 m c2]).run P w = .ok (.slice A' (n + m) c') w' ∧ Appended w base e A n c xs m news A' c' w' := by
  have hsrc : Src P i.size t (.slice A2 m c2) m news w := by rw [hsize]; exact hr.src ht h1
  rcases Nat.eq_zero_or_pos m with hm | hm
  · subst hm
    have hn : news = [] := List.eq_nil_of_length_eq_zero hr.1
    subst hn
    exact ⟨A, c, w, run_append_nothing w t t ty e i ht hi A n c hown.2.1 _ hsrc, by simpa using hown, hown, gb_refl _ _, .inl ⟨rfl, rfl, hown.2.1, fun _ => rfl⟩⟩
  · rcases Nat.lt_or_ge c (n + m) with hg | hroom
    · have hfin : ∀ (v' : Value) (w' : World), w'.ownsRow w.heap.size e 1 v' (n + m) (xs ++ news) → w.grownBy w' none → ∃ A' c', v' = .slice A' (n + m) c' ∧ Appended w base e A n c xs m news A' c' w' := by
        intro v' w' ho hgr
        obtain ⟨A', c', rfl, _, _⟩ := own_form ho
        refine ⟨A', c', rfl, (Free.of_own ho).mono hbase, hown.grown hgr (fun _ _ _ _ => by simp), gb_any hgr _, .inr ⟨hgr, ?_⟩⟩
        rcases ho.2 with ⟨_, h0⟩ | ⟨g, cap, cur, hv, hb, _⟩
        · omega
        · injection hv with hv
          exact ⟨g, hv, hb⟩
      cases A with
      | none =>
        have hc0 : c = 0 := by
          rcases Nat.eq_zero_or_pos c with h | h
          · exact h
          · obtain ⟨_, _, _, h, _⟩ := hown.2.2.2 h
            cases h
        subst hc0
        have hn0 : n = 0 := by have := hown.2.1; omega
        subst hn0
        have hx : xs = [] := List.eq_nil_of_length_eq_zero hown.1
        subst hx
        obtain ⟨b2, off2, rfl, _, hc2⟩ := hr.2 hm
        obtain ⟨v', w', hrun, r1, r2, _⟩ := run_append_own (P := P) w w.heap.size t ty e i z 1 bytes ht hi hz hsize hby hzs (by omega) (.slice none 0 0) 0 [] (World.ownsRow_nil w _ e 1) ⟨b2, off2, none⟩ m c2 news (by rw [hr.1]; omega) (fun j u hu => by rw [Addr.add_lit]; exact hc2 j u hu) h1 h63 hbytes (Nat.le_refl _)
        obtain ⟨A', c', rfl, hA⟩ := hfin v' w' r1 r2
        exact ⟨A', c', w', hrun, hA⟩
      | some a =>
        obtain ⟨b2, off2, rfl, _, hc2⟩ := hr.2 hm
        obtain ⟨v', w', hrun, r1, r2⟩ := run_append_arg_grows (P := P) w t ty e i z 1 bytes ht hi hz hsize hby hzs (by omega) a n c xs (by rw [hown.1]; omega) (fun j u hu => by
          have hj : j < n := by have := (List.getElem?_eq_some_iff.1 hu).1; have := hown.1; omega
          obtain ⟨b, off, hA, _, hcell⟩ := hown.sees.2 (by omega)
          injection hA with hA
          subst hA
          rw [Addr.add_lit]
          exact hcell j u hu) ⟨b2, off2, none⟩ m c2 news (by rw [hr.1]; omega) (fun j u hu => by rw [Addr.add_lit]; exact hc2 j u hu) hg h63 hbytes
        obtain ⟨A', c', rfl, hA⟩ := hfin v' w' r1 r2
        exact ⟨A', c', w', hrun, hA⟩
    · have hcp : 0 < c := by omega
      obtain ⟨g, off, cur, rfl, hb, hB, hs, hx⟩ := hown.2.2.2 hcp
      have hml : news.length = m := hr.1
      obtain ⟨cur', b1, b2, b3, b4⟩ := Blk.sets news (off + n) w cur hB (by omega)
      have hrun := run_append_room_src (P := P) w t t ty e i ht hi g off n c (.slice A2 m c2) m news hsrc hroom
        (fun j hj => by rw [hB.cell, Array.getElem?_eq_getElem (by rw [hsize]; omega)]; rfl) (fun j hj => hB.frozen _)
      rw [hsize, Nat.mul_one] at hrun
      refine ⟨_, _, _, hrun, ⟨by rw [List.length_append, hown.1, hml], hroom, hown.2.2.1, fun _ => ⟨g, off, cur', rfl, hb, b1, by omega, fun j hj => ?_⟩⟩, ⟨hown.1, hown.2.1, hown.2.2.1, fun _ => ⟨g, off, cur', rfl, hb, b1, by omega, fun j hj => ?_⟩⟩, gb_sets _ _ _ (gb_refl _ _), .inl ⟨rfl, rfl, hroom, fun h => absurd h (by omega)⟩⟩
      · by_cases hjn : j < n
        · rw [b3 _ (by omega), hx j hjn, List.getElem?_append_left (by have := hown.1; omega)]
        · rw [List.getElem?_append_right (by have := hown.1; omega), hown.1, ← b4 (j - n) (by omega)]
          congr 1
          omega
      · rw [b3 _ (by omega)]
        exact hx j hj

theorem wpList_append_free {P : Program} (w : World) {ops : Array Oper} {rest : List Oper} {o : Oper} {a : Act} {Q : Exit → Act → World → Prop} (hgd : o.guard = none) (s x : Operand) (t : TypeId)
    (ho : o.op = .call { callee := .builtin .append, args := #[s, x], argTypes := #[t, t] })
    (base : Nat) (e : TypeId) (i : TypeInfo) (z : Value) (bytes : Nat) (ht : P.underlying t = some (.slice e)) (hi : P.info? e = some i) (hz : i.zero = some z)
    (hsize : i.size = 1) (hby : i.bytes = bytes) (hzs : z.cells.size = 1)
    (A : Option Addr) (n c : Nat) (xs : List Value) (hs : a.eval s = .slice A n c) (hown : Free w base e A n c xs) (h1x : ∀ u ∈ xs, u.oneCell' = true)
    (B : Nat) (A2 : Option Addr) (m c2 : Nat) (news : List Value) (hx : a.eval x = .slice A2 m c2) (hr : Sees w B A2 m news) (h1 : ∀ u ∈ news, u.oneCell' = true)
    (h63 : n + m ≤ maxLen) (hbytes : (n + m) * bytes ≤ 140737488355328) (hbase : base ≤ w.heap.size)
    (h : ∀ A' c' w', Appended w base e A n c xs m news A' c' w' → wpList P ops Q rest (a.put o.dst (.slice A' (n + m) c')) w') : wpList P ops Q (o :: rest) a w := by
  obtain ⟨A', c', w', hrun, h2⟩ := append_free (P := P) w base t o.type e i z bytes ht hi hz hsize hby hzs A n c xs hown h1x B A2 m c2 news hr h1 h63 hbytes hbase
  exact Lib.wpList_append_run w hgd s x t t ho _ _ hs hx _ w' hrun (h A' c' w' h2)


section
variable {w w' w0 : World} {base n c m c' B : Nat} {e : TypeId} {A A' : Option Addr} {xs news : List Value}
/-- the one row that may have turned, if any -/
theorem Appended.row (h : Appended w base e A n c xs m news A' c' w') (h0 : Free w base e A n c xs) : w.grownBy w' none ∨ ∃ g cur, base ≤ g ∧ Blk w g e cur ∧ w.grownBy w' (some g) := by
  by_cases hc : 0 < c
  · obtain ⟨g, off, cur, rfl, hg, hb, _⟩ := h0.2.2.2 hc
    exact .inr ⟨g, cur, hg, hb, h.2.2.1⟩
  · rcases h.2.2.2 with ⟨_, _, _, hw⟩ | ⟨hg, _⟩
    · have := hw (by omega)
      subst this
      exact .inl (gb_refl _ _)
    · exact .inl hg
theorem Appended.below (h : Appended w base e A n c xs m news A' c' w') (h0 : Free w base e A n c xs) (hb : Below B w0 w) (hB : B ≤ w.heap.size) (hbase : B ≤ base) : Below B w0 w' := by
  rcases h.row h0 with hg | ⟨g, cur, hg, _, hgr⟩
  · exact hb.grown hg hB (fun k e => by cases e)
  · exact hb.grown hgr hB (fun k e => by injection e; omega)
/-- a row of elements of another type is as it was -/
theorem Appended.across {base2 n2 c2 : Nat} {e2 : TypeId} {A2 : Option Addr} {ys : List Value} (h : Appended w base e A n c xs m news A' c' w') (h0 : Free w base e A n c xs) (hne : e2 ≠ e) (h2 : Free w base2 e2 A2 n2 c2 ys) : Free w' base2 e2 A2 n2 c2 ys := by
  rcases h.row h0 with hg | ⟨g, cur, _, hblk, hgr⟩
  · exact h2.grown hg (fun _ _ _ _ => by simp)
  · refine ⟨h2.1, h2.2.1, h2.2.2.1, fun hc => ?_⟩
    obtain ⟨g2, off2, cur2, hA, hb2, hB2, hs⟩ := h2.2.2.2 hc
    refine ⟨g2, off2, cur2, hA, hb2, hB2.grown hgr (fun e => ?_), hs⟩
    injection e with e
    subst e
    unfold Blk at hblk hB2
    rw [hblk] at hB2
    injection hB2 with hB2
    injection hB2 with _ ht
    exact hne ht.symm
end
theorem Free.lt {w : World} {base n c : Nat} {e : TypeId} {A : Option Addr} {xs : List Value} (h : Free w base e A n c xs) : ∀ a, A = some a → 0 < c → a.block < w.heap.size := by
  intro a ha hc
  obtain ⟨g, off, cur, hA, _, hb, _⟩ := h.2.2.2 hc
  rw [hA] at ha
  injection ha with ha
  subst ha
  exact hb.lt
/-- a row from later blocks is as it was -/
theorem Appended.apart {w w' : World} {base n c m c' : Nat} {e : TypeId} {A A' : Option Addr} {xs news : List Value} {base2 n2 c2 : Nat} {e2 : TypeId} {A2 : Option Addr} {ys : List Value} (h : Appended w base e A n c xs m news A' c' w')
    (hlt : ∀ a, A = some a → 0 < c → a.block < base2) (h2 : Free w base2 e2 A2 n2 c2 ys) : Free w' base2 e2 A2 n2 c2 ys := by
  by_cases hc : 0 < c
  · refine h2.grown h.2.2.1 (fun a ha hb _ => ?_)
    cases A with
    | none => simp
    | some a' =>
      have := hlt a' rfl hc
      simp
      omega
  · rcases h.2.2.2 with ⟨_, _, _, hw⟩ | ⟨hg, _⟩
    · have := hw (by omega)
      subst this
      exact h2
    · exact h2.grown hg (fun _ _ _ _ => by simp)
/-- a row that was just made, as one that may be written -/
theorem free_new (w : World) (cs : Array Value) (t : TypeId) (h : cs.size ≤ maxLen) : Free (w.alloc (.cells cs t)) w.heap.size t (some ⟨w.heap.size, 0, none⟩) cs.size cs.size cs.toList :=
  ⟨by simp, Nat.le_refl _, h, fun _ => ⟨w.heap.size, 0, cs, rfl, Nat.le_refl _, Blk.new w t cs, by omega, fun j _ => by simp⟩⟩
end Go.Proofs.Ytlggkeoihpcdiaa

/- Words for slices of elements of several cells that may be written and appended to, wherever they begin in their row; and what a call that turns one block and one row leaves. No program is named. -/
namespace Go.Proofs.Ytlggkeoihpcdiaa
open Go.RowKit

/-- a slice of elements of sz cells each, in a row from block `base` on that may be written: n elements, room for c -/
def FreeN (sz : Nat) (w : World) (base : Nat) (e : TypeId) (A : Option Addr) (n c : Nat) (xs : List Value) : Prop :=
  xs.length = n * sz ∧ n ≤ c ∧ c ≤ maxLen ∧ (0 < c → ∃ g off cur, A = some ⟨g, off, none⟩ ∧ base ≤ g ∧ Blk w g e cur ∧ off + c * sz ≤ cur.size ∧ ∀ j, j < n * sz → cur[off + j]? = xs[j]?)

/-- the block that an append onto a slice may turn -/
def foot (A : Option Addr) (c : Nat) : Option Nat := if 0 < c then A.map (·.block) else none

section
variable {sz : Nat} {w w' : World} {base n c : Nat} {e : TypeId} {A : Option Addr} {xs : List Value}
theorem FreeN.nil (sz : Nat) (w : World) (base : Nat) (e : TypeId) : FreeN sz w base e none 0 0 [] := ⟨by simp, Nat.le_refl _, by decide, fun h => absurd h (by omega)⟩
theorem FreeN.foot_at (h : FreeN sz w base e A n c xs) : ∀ k, foot A c = some k → base ≤ k ∧ ∃ cur, Blk w k e cur := by
  intro k hk
  unfold foot at hk
  split at hk
  · rename_i hc
    obtain ⟨g, off, cur, rfl, hg, hb, _⟩ := h.2.2.2 hc
    injection hk with hk
    subst hk
    exact ⟨hg, cur, hb⟩
  · cases hk
theorem FreeN.foot_some (h : FreeN sz w base e A n c xs) (hn : 0 < n) : ∃ k, foot A c = some k ∧ base ≤ k := by
  have hc : 0 < c := Nat.lt_of_lt_of_le hn h.2.1
  obtain ⟨g, off, cur, rfl, hg, _⟩ := h.2.2.2 hc
  exact ⟨g, by unfold foot; rw [if_pos hc]; rfl, hg⟩
theorem FreeN.sees (h : FreeN sz w base e A n c xs) : Sees w w.heap.size A (n * sz) xs := by
  refine ⟨h.1, fun hn => ?_⟩
  have hn0 : 0 < n := Nat.pos_of_ne_zero (fun e => by subst e; omega)
  obtain ⟨g, off, cur, rfl, _, hb, _, hc⟩ := h.2.2.2 (by have := h.2.1; omega)
  refine ⟨g, off, rfl, hb.lt, fun j u hu => ?_⟩
  rw [hb.cell, hc j (by have := (List.getElem?_eq_some_iff.1 hu).1; have := h.1; omega)]
  exact hu
theorem FreeN.of_own (h : w.ownsRow base e sz (.slice A n c) n xs) : FreeN sz w base e A n c xs := by
  refine ⟨h.1, ?_⟩
  rcases h.2 with ⟨hv, rfl⟩ | ⟨g, cap, cur, hv, hb, hg, h1, h2, h3, h4⟩
  · injection hv with _ _ h2
    subst h2
    exact ⟨Nat.le_refl _, by decide, fun h => absurd h (by omega)⟩
  · injection hv with hA _ hc
    subst hA
    subst hc
    refine ⟨h1, h2, fun _ => ⟨g, 0, cur, rfl, hb, hg, by omega, fun j hj => ?_⟩⟩
    rw [Nat.zero_add, ← h4, List.getElem?_take, if_pos hj]
    simp
theorem FreeN.keep (h : FreeN sz w base e A n c xs) (hk : ∀ k, foot A c = some k → w'.heap[k]? = w.heap[k]?) : FreeN sz w' base e A n c xs := by
  refine ⟨h.1, h.2.1, h.2.2.1, fun hc => ?_⟩
  obtain ⟨g, off, cur, rfl, hb, hB, hs⟩ := h.2.2.2 hc
  exact ⟨g, off, cur, rfl, hb, (hk g (by unfold foot; rw [if_pos hc]; rfl)).trans hB, hs⟩
theorem FreeN.on (h : FreeN sz w base e A n c xs) (hb : Below w.heap.size w w') : FreeN sz w' base e A n c xs := h.keep fun k hk => by
  obtain ⟨_, cur, hB⟩ := h.foot_at k hk
  exact hb.block _ hB.lt
theorem FreeN.mono {base' : Nat} (h : FreeN sz w base e A n c xs) (hb : base' ≤ base) : FreeN sz w base' e A n c xs := by
  refine ⟨h.1, h.2.1, h.2.2.1, fun hc => ?_⟩
  obtain ⟨g, off, cur, hA, hg, hs⟩ := h.2.2.2 hc
  exact ⟨g, off, cur, hA, by omega, hs⟩
theorem FreeN.grown {row : Option Nat} (h : FreeN sz w base e A n c xs) (hg : w.grownBy w' row) (hn : ∀ k, foot A c = some k → some k ≠ row) : FreeN sz w' base e A n c xs :=
  h.keep fun k hk => by
    obtain ⟨_, cur, hB⟩ := h.foot_at k hk
    exact hg.block _ hB.lt (hn k hk)
theorem FreeN.far (h : FreeN sz w base e A n c xs) {p : Addr} (hp : ∀ k, foot A c = some k → k ≠ p.block) (u : Value) : FreeN sz (w.setCell p u) base e A n c xs :=
  h.keep fun k hk => Below.heap_setCell w p u _ (hp k hk)
/-- 's[:k:k]' -/
theorem FreeN.cut {k : Nat} (h : FreeN sz w base e A n c xs) (hk : k ≤ n) : FreeN sz w base e A k k (xs.take (k * sz)) := by
  have hkm : k * sz ≤ n * sz := Nat.mul_le_mul_right sz hk
  refine ⟨by rw [List.length_take, h.1]; omega, Nat.le_refl _, by have := h.2.1; have := h.2.2.1; omega, fun hc => ?_⟩
  obtain ⟨g, off, cur, hA, hb, hB, hs, hx⟩ := h.2.2.2 (by have := h.2.1; omega)
  have hkc : k * sz ≤ c * sz := Nat.mul_le_mul_right sz (by have := h.2.1; omega)
  exact ⟨g, off, cur, hA, hb, hB, by omega, fun j hj => by rw [hx j (by omega), List.getElem?_take, if_pos hj]⟩
theorem foot_cut (A : Option Addr) (c k : Nat) (hk : k ≤ c) : foot A k = foot A c ∨ foot A k = none := by
  unfold foot
  by_cases h : 0 < k
  · left
    rw [if_pos h, if_pos (by omega)]
  · right
    rw [if_neg h]
/-- cells of a block, set one by one, leave the rest of it -/
theorem Sees.srcN {P : Program} {B m : Nat} {news : List Value} {tx e' : TypeId} (hk : P.underlying tx = some (.slice e')) (hsz : 0 < sz) (h : Sees w B A (m * sz) news) (h1 : ∀ u ∈ news, u.oneCell' = true) : Src P sz tx (.slice A m c) m news w := by
  rcases Nat.eq_zero_or_pos m with hm | hm
  · subst hm
    have hn : news = [] := List.eq_nil_of_length_eq_zero (by have := h.1; omega)
    subst hn
    cases A with
    | none => exact Src.ofNil w hk c
    | some a => exact Src.ofSlice w hk a 0 c [] (by simp) (fun j u hu => by simp at hu) (fun _ h => by cases h)
  · obtain ⟨b, off, rfl, _, hc⟩ := h.2 (Nat.mul_pos hm hsz)
    exact Src.ofSlice w hk _ m c news h.1 (fun j u hu => by rw [Addr.add_lit]; exact hc j u hu) h1

/-- what an append onto such a slice leaves -/
def AppendedN (sz : Nat) (w : World) (base : Nat) (e : TypeId) (A : Option Addr) (n c : Nat) (xs : List Value) (m : Nat) (news : List Value) (A' : Option Addr) (c' : Nat) (w' : World) : Prop :=
  FreeN sz w' base e A' (n + m) c' (xs ++ news) ∧ w.grownBy w' (foot A c) ∧ (foot A' c' = foot A c ∨ ∃ k, foot A' c' = some k ∧ w.heap.size ≤ k)

theorem AppendedN.below {B m c' : Nat} {w0 : World} {news : List Value} {A' : Option Addr} (h : AppendedN sz w base e A n c xs m news A' c' w') (h0 : FreeN sz w base e A n c xs) (hb : Below B w0 w) (hB : B ≤ w.heap.size) (hbase : B ≤ base) : Below B w0 w' :=
  hb.grown h.2.1 hB (fun k hk => Nat.le_trans hbase (h0.foot_at k hk).1)
/-- a draw is no change -/
theorem AppendedN.same {W : World} {m c' : Nat} {news : List Value} {A' : Option Addr} (h : AppendedN sz W base e A n c xs m news A' c' w') (h1 : W.os = w.os) (h2 : W.tape = w.tape) (h3 : W.output = w.output) (h4 : W.heap = w.heap) : AppendedN sz w base e A n c xs m news A' c' w' := by
  obtain ⟨k1, k2, k3⟩ := h
  exact ⟨k1, ⟨k2.os.trans h1, k2.tape.trans h2, k2.output.trans h3, by rw [← h4]; exact k2.size, fun k hk hne => by rw [← h4]; exact k2.block k (by rw [h4]; exact hk) hne⟩, by rw [← h4]; exact k3⟩

theorem append_freeN {P : Program} (w : World) (base : Nat) (t ty e : TypeId) (i : TypeInfo) (z : Value) (bytes : Nat) (ht : P.underlying t = some (.slice e)) (hi : P.info? e = some i) (hz : i.zero = some z)
    (hsize : i.size = sz) (hby : i.bytes = bytes) (hzs : z.cells.size = sz) (hsz : 0 < sz)
    (A : Option Addr) (n c : Nat) (xs : List Value) (hown : FreeN sz w base e A n c xs)
    (B : Nat) (A2 : Option Addr) (m c2 : Nat) (news : List Value) (hr : Sees w B A2 (m * sz) news) (h1 : ∀ u ∈ news, u.oneCell' = true)
    (h63 : n + m ≤ maxLen) (hbytes : (n + m) * bytes ≤ 140737488355328) (hbase : base ≤ w.heap.size) :
    ∃ A' c' w', (Builtin.append_ #[t, t] ty #[.slice A n c, .slice A2 m c2]).run P w = .ok (.slice A' (n + m) c') w' ∧ AppendedN sz w base e A n c xs m news A' c' w' := by
  have hsrc : Src P i.size t (.slice A2 m c2) m news w := by rw [hsize]; exact hr.srcN ht hsz h1
  rcases Nat.eq_zero_or_pos m with hm | hm
  · subst hm
    have hn : news = [] := List.eq_nil_of_length_eq_zero (by have := hr.1; omega)
    subst hn
    exact ⟨A, c, w, run_append_nothing w t t ty e i ht hi A n c hown.2.1 _ hsrc, by simpa using hown, gb_refl _ _, .inl rfl⟩
  · have hms : 0 < m * sz := Nat.mul_pos hm hsz
    rcases Nat.lt_or_ge c (n + m) with hg | hroom
    · have hfin : ∀ (v' : Value) (w' : World), w'.ownsRow w.heap.size e sz v' (n + m) (xs ++ news) → w.grownBy w' none → ∃ A' c', v' = .slice A' (n + m) c' ∧ AppendedN sz w base e A n c xs m news A' c' w' := by
        intro v' w' ho hgr
        rcases ho.2 with ⟨_, h0⟩ | ⟨g, cap, cur, rfl, hb, hx1, hx2, hx3, hx4, hx5⟩
        · omega
        · refine ⟨_, cap, rfl, (FreeN.of_own ho).mono hbase, gb_any hgr _, .inr ⟨g, ?_, hb⟩⟩
          unfold foot
          rw [if_pos (by omega)]
          rfl
      cases A with
      | none =>
        have hc0 : c = 0 := by
          rcases Nat.eq_zero_or_pos c with h | h
          · exact h
          · obtain ⟨_, _, _, h, _⟩ := hown.2.2.2 h
            cases h
        subst hc0
        have hn0 : n = 0 := by have := hown.2.1; omega
        subst hn0
        have hx : xs = [] := List.eq_nil_of_length_eq_zero (by have := hown.1; omega)
        subst hx
        obtain ⟨b2, off2, rfl, _, hc2⟩ := hr.2 hms
        obtain ⟨v', w', hrun, r1, r2, _⟩ := run_append_own (P := P) w w.heap.size t ty e i z sz bytes ht hi hz hsize hby hzs hsz (.slice none 0 0) 0 [] (World.ownsRow_nil w _ e sz) ⟨b2, off2, none⟩ m c2 news hr.1 (fun j u hu => by rw [Addr.add_lit]; exact hc2 j u hu) h1 h63 hbytes (Nat.le_refl _)
        obtain ⟨A', c', rfl, hA⟩ := hfin v' w' r1 r2
        exact ⟨A', c', w', hrun, hA⟩
      | some a =>
        obtain ⟨b2, off2, rfl, _, hc2⟩ := hr.2 hms
        obtain ⟨v', w', hrun, r1, r2⟩ := run_append_arg_grows (P := P) w t ty e i z sz bytes ht hi hz hsize hby hzs hsz a n c xs hown.1 (fun j u hu => by
          have hj : j < n * sz := by have := (List.getElem?_eq_some_iff.1 hu).1; have := hown.1; omega
          obtain ⟨b, off, hA, _, hcell⟩ := hown.sees.2 (by omega)
          injection hA with hA
          subst hA
          rw [Addr.add_lit]
          exact hcell j u hu) ⟨b2, off2, none⟩ m c2 news hr.1 (fun j u hu => by rw [Addr.add_lit]; exact hc2 j u hu) hg h63 hbytes
        obtain ⟨A', c', rfl, hA⟩ := hfin v' w' r1 r2
        exact ⟨A', c', w', hrun, hA⟩
    · have hcp : 0 < c := by omega
      obtain ⟨g, off, cur, rfl, hb, hB, hs, hx⟩ := hown.2.2.2 hcp
      have hml : news.length = m * sz := hr.1
      have hnm : (n + m) * sz ≤ c * sz := Nat.mul_le_mul_right sz hroom
      rw [Nat.add_mul] at hnm
      obtain ⟨cur', b1, b2, b3, b4⟩ := Blk.sets news (off + n * sz) w cur hB (by omega)
      have hrun := run_append_room_src (P := P) w t t ty e i ht hi g off n c (.slice A2 m c2) m news hsrc hroom
        (fun j hj => by rw [hB.cell, Array.getElem?_eq_getElem (by rw [hsize]; omega)]; rfl) (fun j hj => hB.frozen _)
      rw [hsize] at hrun
      refine ⟨_, _, _, hrun, ⟨by rw [List.length_append, hown.1, hml, Nat.add_mul], hroom, hown.2.2.1, fun _ => ⟨g, off, cur', rfl, hb, b1, by omega, fun j hj => ?_⟩⟩, ?_, .inl rfl⟩
      · rw [Nat.add_mul] at hj
        by_cases hjn : j < n * sz
        · rw [b3 _ (by omega), hx j hjn, List.getElem?_append_left (by have := hown.1; omega)]
        · rw [List.getElem?_append_right (by have := hown.1; omega), hown.1, ← b4 (j - n * sz) (by omega)]
          congr 1
          omega
      · unfold foot
        rw [if_pos hcp]
        exact gb_sets _ _ _ (gb_refl _ _)

theorem wpList_append_freeN {P : Program} (w : World) {ops : Array Oper} {rest : List Oper} {o : Oper} {a : Act} {Q : Exit → Act → World → Prop} (hgd : o.guard = none) (s x : Operand) (t : TypeId)
    (ho : o.op = .call { callee := .builtin .append, args := #[s, x], argTypes := #[t, t] })
    (base : Nat) (e : TypeId) (i : TypeInfo) (z : Value) (bytes : Nat) (ht : P.underlying t = some (.slice e)) (hi : P.info? e = some i) (hz : i.zero = some z)
    (hsize : i.size = sz) (hby : i.bytes = bytes) (hzs : z.cells.size = sz) (hsz : 0 < sz)
    (A : Option Addr) (n c : Nat) (xs : List Value) (hs : a.eval s = .slice A n c) (hown : FreeN sz w base e A n c xs)
    (B : Nat) (A2 : Option Addr) (m c2 : Nat) (news : List Value) (hx : a.eval x = .slice A2 m c2) (hr : Sees w B A2 (m * sz) news) (h1 : ∀ u ∈ news, u.oneCell' = true)
    (h63 : n + m ≤ maxLen) (hbytes : (n + m) * bytes ≤ 140737488355328) (hbase : base ≤ w.heap.size)
    (h : ∀ A' c' w', AppendedN sz w base e A n c xs m news A' c' w' → wpList P ops Q rest (a.put o.dst (.slice A' (n + m) c')) w') : wpList P ops Q (o :: rest) a w := by
  obtain ⟨A', c', w', hrun, h2⟩ := append_freeN (P := P) w base t o.type e i z bytes ht hi hz hsize hby hzs hsz A n c xs hown B A2 m c2 news hr h1 h63 hbytes hbase
  exact Lib.wpList_append_run w hgd s x t t ho _ _ hs hx _ w' hrun (h A' c' w' h2)
/-- .. at a step of a region that draws -/
theorem step_append_freeN {P : Program} {ops : Array Oper} {o : Oper} {a : Act} {w : World} {K : Act → World → Prop} {Q : Exit → Act → World → Prop} {E : Prop}
    (hg : o.guard = none) (s x : Operand) (t : TypeId) (ho : o.op = Op.call { callee := Callee.builtin Builtin.append, args := #[s, x], argTypes := #[t, t] })
    (base : Nat) (e : TypeId) (i : TypeInfo) (z : Value) (bytes : Nat) (ht : P.underlying t = some (.slice e)) (hi : P.info? e = some i) (hz : i.zero = some z)
    (hsize : i.size = sz) (hby : i.bytes = bytes) (hzs : z.cells.size = sz) (hsz : 0 < sz)
    (A : Option Addr) (n c : Nat) (xs : List Value) (hs : a.eval s = .slice A n c) (hown : FreeN sz w base e A n c xs)
    (B : Nat) (A2 : Option Addr) (m c2 : Nat) (news : List Value) (hx : a.eval x = .slice A2 m c2) (hr : Sees w B A2 (m * sz) news) (h1 : ∀ u ∈ news, u.oneCell' = true)
    (h63 : n + m ≤ maxLen) (hbytes : (n + m) * bytes ≤ 140737488355328) (hbase : base ≤ w.heap.size)
    (h : ∀ A' c' w', AppendedN sz w base e A n c xs m news A' c' w' → K (a.put o.dst (.slice A' (n + m) c')) w') :
    if Region.wanted o (yielded ops a.tmps) = true then Oper.wp P o a w K Q else E := by
  have hw : Region.wanted o (yielded ops a.tmps) = true := by simp [Region.wanted, hg]
  rw [if_pos hw]
  obtain ⟨A', c', w', hrun, h2⟩ := append_freeN (P := P) w base t o.type e i z bytes ht hi hz hsize hby hzs hsz A n c xs hown B A2 m c2 news hr h1 h63 hbytes hbase
  unfold Oper.wp execOp
  simp only [ho, resolve, invoke, builtin, Sem.run_bind, Sem.run_pure, Result.andThen_ok, List.map_toArray, List.map_cons, List.map_nil, hs, hx, hrun]
  exact h A' c' w' h2
end

/-- only block g, the block f, if any, and what is new, has turned -/
structure Moved (g : Nat) (f : Option Nat) (a w : World) : Prop where
  os : w.os = a.os
  tape : w.tape = a.tape
  output : w.output = a.output
  size : a.heap.size ≤ w.heap.size
  block : ∀ k, k < a.heap.size → k ≠ g → some k ≠ f → w.heap[k]? = a.heap[k]?
theorem Moved.refl (g : Nat) (f : Option Nat) (w : World) : Moved g f w w := ⟨rfl, rfl, rfl, Nat.le_refl _, fun _ _ _ _ => rfl⟩
theorem Moved.weaken {g : Nat} {a w : World} (h : Moved g none a w) (f : Option Nat) : Moved g f a w := ⟨h.os, h.tape, h.output, h.size, fun k hk h1 _ => h.block k hk h1 (by simp)⟩
theorem Sees.moved {g n : Nat} {w w' : World} {A : Option Addr} {xs : List Value} (h : Sees w w.heap.size A n xs) (hm : Moved g none w w') (hne : 0 < n → ∀ a, A = some a → a.block ≠ g) : Sees w' w'.heap.size A n xs := by
  refine ⟨h.1, fun hn => ?_⟩
  obtain ⟨b, off, rfl, hb, hc⟩ := h.2 hn
  have := hm.size
  exact ⟨b, off, rfl, by omega, fun j u hu => (World.cell?_of_block (a := ⟨b, off + j, none⟩) (hm.block b hb (hne hn _ rfl) (by simp))).trans (hc j u hu)⟩
theorem Moved.set_ {g : Nat} {f : Option Nat} {a w : World} (h : Moved g f a w) (i : Nat) (u : Value) : Moved g f a (w.setCell ⟨g, i, none⟩ u) :=
  ⟨h.os, h.tape, h.output, by simpa [World.setCell] using h.size, fun k hk h1 h2 => (Below.heap_setCell w _ u k h1).trans (h.block k hk h1 h2)⟩
theorem Moved.grown {g : Nat} {f f' : Option Nat} {a w w' : World} (h : Moved g f a w) (hg : w.grownBy w' f') (hf : ∀ k, f' = some k → f = some k ∨ k = g ∨ a.heap.size ≤ k) : Moved g f a w' :=
  ⟨hg.os.trans h.os, hg.tape.trans h.tape, hg.output.trans h.output, Nat.le_trans h.size hg.size, fun k hk h1 h2 => (hg.block k (Nat.lt_of_lt_of_le hk h.size) (fun e => by
    rcases hf k e.symm with h | h | h
    · exact h2 h.symm
    · exact h1 h
    · omega)).trans (h.block k hk h1 h2)⟩
theorem Moved.on {g : Nat} {f : Option Nat} {a w w' : World} (h : Moved g f a w) (hb : Below w.heap.size w w') : Moved g f a w' :=
  ⟨hb.os.trans h.os, hb.tape.trans h.tape, hb.output.trans h.output, Nat.le_trans h.size hb.size, fun k hk h1 h2 => (hb.block k (Nat.lt_of_lt_of_le hk h.size)).trans (h.block k hk h1 h2)⟩
/-- what was made ahead of it -/
theorem Moved.behind {g : Nat} {f : Option Nat} {a b w : World} (h : Moved g f b w) (hb : Below a.heap.size a b) : Moved g f a w :=
  ⟨h.os.trans hb.os, h.tape.trans hb.tape, h.output.trans hb.output, Nat.le_trans hb.size h.size, fun k hk h1 h2 => (h.block k (Nat.lt_of_lt_of_le hk hb.size) h1 h2).trans (hb.block k hk)⟩
theorem Moved.drew {g : Nat} {f : Option Nat} {a w : World} (h : Moved g f a w) : Moved g f a w.drew := ⟨h.os, h.tape, h.output, h.size, h.block⟩
theorem Moved.below {g : Nat} {f : Option Nat} {a w : World} {B : Nat} (h : Moved g f a w) (hg : B ≤ g) (hf : ∀ k, f = some k → B ≤ k) (hB : B ≤ a.heap.size) : Below B a w :=
  ⟨h.os, h.tape, h.output, h.size, fun k hk => h.block k (by omega) (by omega) (fun e => by have := hf k e.symm; omega)⟩
theorem Moved.blk {g k : Nat} {f : Option Nat} {a w : World} {t : TypeId} {cs : Array Value} (h : Moved g f a w) (hb : Blk a k t cs) (h1 : k ≠ g) (h2 : some k ≠ f) : Blk w k t cs := (h.block k hb.lt h1 h2).trans hb
theorem Blk.type_eq {w : World} {g : Nat} {t t' : TypeId} {cs cs' : Array Value} (h : Blk w g t cs) (h' : Blk w g t' cs') : t = t' := by
  unfold Blk at h h'
  rw [h] at h'
  injection h' with h'
  injection h' with _ ht
theorem Blk.apart {w : World} {g g' : Nat} {t t' : TypeId} {cs cs' : Array Value} (h : Blk w g t cs) (h' : Blk w g' t' cs') (hne : t ≠ t') : g ≠ g' := by
  intro e
  subst e
  exact hne (h.type_eq h')
end Go.Proofs.Ytlggkeoihpcdiaa

/- Entries, and what the calls of package log tell of a row of them: plain facts. No program is named. -/
namespace Go.Proofs.Ytlggkeoihpcdiaa
open Go.RowKit

theorem wr_i64 {z : Int} (h0 : 0 ≤ z) (h : z ≤ 4611686018427387904) : IntKind.i64.wrap z = z := by rw [IntKind.wrap_i64]; omega
theorem wr_64 {z : Int} (h0 : 0 ≤ z) (h : z ≤ 4611686018427387904) : wrap64 z = z := by unfold wrap64; omega

/-- an entry: its term, and its data -/
structure Ent where
  t : Int
  s : ByteArray
def Ent.cells (e : Ent) : List Value := [.int .i64 e.t, .string e.s]
def Ent.v (e : Ent) : Value := .agg #[.int .i64 e.t, .string e.s]
/-- the cells of a row of entries -/
def ecs (es : List Ent) : List Value := es.flatMap Ent.cells
theorem ecs_nil : ecs [] = [] := rfl
theorem ecs_cons (e : Ent) (es : List Ent) : ecs (e :: es) = .int .i64 e.t :: .string e.s :: ecs es := rfl
theorem ecs_append (a b : List Ent) : ecs (a ++ b) = ecs a ++ ecs b := by simp [ecs]
theorem ecs_length (es : List Ent) : (ecs es).length = es.length * 2 := by
  induction es with
  | nil => rfl
  | cons e es ih => rw [ecs_cons]; simp only [List.length_cons]; omega
theorem ecs_get : ∀ (es : List Ent) (j : Nat) (hj : j < es.length), (ecs es)[j * 2]? = some (.int .i64 es[j].t) ∧ (ecs es)[j * 2 + 1]? = some (.string es[j].s)
  | e :: es, 0, _ => ⟨rfl, rfl⟩
  | e :: es, j + 1, hj => by
    have ih := ecs_get es j (by simpa using hj)
    rw [ecs_cons, show (j + 1) * 2 = j * 2 + 1 + 1 from by omega, show j * 2 + 1 + 1 + 1 = (j * 2 + 1) + 1 + 1 from by omega]
    simp only [List.getElem?_cons_succ, List.getElem_cons_succ]
    exact ih
theorem ecs_one (es : List Ent) : ∀ u ∈ ecs es, u.oneCell' = true := by
  intro u hu
  obtain ⟨e, _, he⟩ := List.mem_flatMap.1 hu
  simp only [Ent.cells, List.mem_cons, List.not_mem_nil, or_false] at he
  rcases he with rfl | rfl <;> rfl
theorem ecs_take (es : List Ent) (k : Nat) : (ecs es).take (k * 2) = ecs (es.take k) := by
  induction es generalizing k with
  | nil => simp [ecs]
  | cons e es ih =>
    cases k with
    | zero => simp [ecs]
    | succ k => rw [ecs_cons, show (k + 1) * 2 = k * 2 + 1 + 1 from by omega, List.take_succ_cons, List.take_succ_cons, ih]; rfl
theorem ecs_drop (es : List Ent) (k : Nat) : (ecs es).drop (k * 2) = ecs (es.drop k) := by
  induction es generalizing k with
  | nil => simp [ecs]
  | cons e es ih =>
    cases k with
    | zero => simp
    | succ k => rw [ecs_cons, show (k + 1) * 2 = k * 2 + 1 + 1 from by omega, List.drop_succ_cons, List.drop_succ_cons, ih]; rfl

/-- a row of entries that can be read -/
def Ents (w : World) (B : Nat) (A : Option Addr) (es : List Ent) : Prop := Sees w B A (es.length * 2) (ecs es)
theorem Ents.at_ {w : World} {B : Nat} {A : Option Addr} {es : List Ent} (h : Ents w B A es) {j : Nat} (hj : j < es.length) :
    ∃ b off, A = some ⟨b, off, none⟩ ∧ b < B ∧ w.cell? ⟨b, off + j * 2, none⟩ = some (.int .i64 es[j].t) ∧ w.cell? ⟨b, off + j * 2 + 1, none⟩ = some (.string es[j].s) := by
  obtain ⟨b, off, hA, hb, hc⟩ := h.2 (by omega)
  obtain ⟨g1, g2⟩ := ecs_get es j hj
  exact ⟨b, off, hA, hb, hc _ _ g1, by rw [show off + j * 2 + 1 = off + (j * 2 + 1) from by omega]; exact hc _ _ g2⟩
theorem Ents.nil (w : World) (B : Nat) (A : Option Addr) : Ents w B A [] := Sees.none_ _ _ _
/-- 's[k:]' -/
theorem Ents.drop {w : World} {B n c k : Nat} {A : Option Addr} {es : List Ent} (h : Ents w B A es) (hn : es.length = n) (hk : k ≤ n) (hc : n ≤ c) : Ents w B (if c = k then A else A.map (·.add (k * 2))) (es.drop k) := by
  unfold Ents at *
  have hl : (es.drop k).length = n - k := by rw [List.length_drop, hn]
  rw [hl, ← ecs_drop]
  rw [hn] at h
  rcases Nat.eq_zero_or_pos (n - k) with h0 | h0
  · rw [h0]
    have : (ecs es).drop (k * 2) = [] := by apply List.drop_eq_nil_of_le; rw [ecs_length]; omega
    rw [this]
    exact Sees.none_ _ _ _
  · have h1 := Sees.drop (cap := n * 2) h (k := k * 2) (by omega) (Nat.le_refl _)
    rw [if_neg (by omega)] at h1
    rw [if_neg (by omega), Nat.sub_mul]
    exact h1
theorem Ents.take {w : World} {B k : Nat} {A : Option Addr} {es : List Ent} (h : Ents w B A es) (hk : k ≤ es.length) : Ents w B A (es.take k) := by
  unfold Ents at *
  have hl : (es.take k).length = k := by rw [List.length_take]; omega
  rw [hl, ← ecs_take]
  exact Sees.take h (by omega)

/-! ### what the calls tell -/
def termF (es : List Ent) (i : Int) : Int × Bool :=
  if i < 0 ∨ (es.length : Int) < i then (0, false) else if i = 0 then (0, true) else (((es[(i - 1).toNat]?).map Ent.t).getD 0, true)
def lastT (es : List Ent) : Int := (termF es es.length).1
/-- terms that don't fall, from one on -/
def fallF : Int → List Ent → Bool
  | _, [] => false
  | t, e :: l => decide (e.t < t) || fallF e.t l
def fitsF (es : List Ent) (i t : Int) (l : List Ent) : Nat :=
  if (termF es i).2 = false then 6 else if (termF es i).1 ≠ t then 8 else if fallF t l then 5 else 0
/-- how many of the first ones stand behind place i already -/
def thereF (es : List Ent) : Int → List Ent → Nat
  | _, [] => 0
  | i, e :: l => if termF es (i + 1) = (e.t, true) then thereF es (i + 1) l + 1 else 0
def putF (es : List Ent) (i t : Int) (l : List Ent) : List Ent × Int × Nat :=
  if fitsF es i t l ≠ 0 then (es, 0, fitsF es i t l)
  else if thereF es i l = l.length then (es, 0, 0)
  else if 1024 < i + l.length then (es, 0, 7)
  else (es.take (i + thereF es i l).toNat ++ l.drop (thereF es i l), i + thereF es i l + 1, 0)
def addF (es : List Ent) (e : Ent) : List Ent × Nat :=
  if e.t < lastT es then (es, 5) else if 1024 ≤ es.length then (es, 7) else (es ++ [e], 0)
def fromN (n : Nat) (i m : Int) : Int × Int := (min (max i 1 - 1) n, min (max m 0) (n - min (max i 1 - 1) n))
def fromF (es : List Ent) (i m : Int) : List Ent := (es.drop (fromN es.length i m).1.toNat).take (fromN es.length i m).2.toNat
def youngF (es : List Ent) (i t : Int) : Bool := decide (lastT es < t) || (decide (t = lastT es) && decide ((es.length : Int) ≤ i))

theorem thereF_le (es : List Ent) (i : Int) (l : List Ent) : thereF es i l ≤ l.length := by
  induction l generalizing i with
  | nil => exact Nat.le_refl _
  | cons e l ih =>
    unfold thereF
    split
    · have := ih (i + 1); simp only [List.length_cons]; omega
    · exact Nat.zero_le _
theorem termF_true {es : List Ent} {i : Int} (h : (termF es i).2 = true) : 0 ≤ i ∧ i ≤ es.length := by
  unfold termF at h
  split at h
  · cases h
  · omega
theorem thereF_bound (es : List Ent) (i : Int) (l : List Ent) (hi : i ≤ es.length) : i + thereF es i l ≤ es.length := by
  induction l generalizing i with
  | nil => unfold thereF; omega
  | cons e l ih =>
    unfold thereF
    split
    · rename_i h
      have := termF_true (es := es) (i := i + 1) (by rw [h])
      have := ih (i + 1) this.2
      omega
    · omega
theorem thereF_eq (es : List Ent) (i : Int) (l : List Ent) (k : Nat) (hk : k ≤ l.length) (h1 : ∀ (j : Nat) (hj : j < l.length), j < k → termF es (i + 1 + j) = (l[j].t, true)) (h2 : ∀ hk : k < l.length, termF es (i + 1 + k) ≠ (l[k].t, true)) : thereF es i l = k := by
  induction l generalizing i k with
  | nil => unfold thereF; simp at hk; omega
  | cons e l ih =>
    unfold thereF
    cases k with
    | zero =>
      have := h2 (by simp)
      rw [if_neg (by simpa using this)]
    | succ k =>
      have h0 := h1 0 (by simp) (by omega)
      rw [if_pos (by simpa using h0)]
      congr 1
      refine ih (i + 1) k (by simpa using hk) (fun j hj hjk => ?_) (fun hk => ?_)
      · have := h1 (j + 1) (by simpa using hj) (by omega)
        rw [show i + 1 + 1 + (j : Int) = i + 1 + ((j + 1 : Nat) : Int) from by omega]
        simpa using this
      · have := h2 (by simpa using hk)
        rw [show i + 1 + 1 + (k : Int) = i + 1 + ((k + 1 : Nat) : Int) from by omega]
        simpa using this
/-- how far the terms have been looked at: the one that the next may not be below -/
def upT (t : Int) (l : List Ent) (k : Nat) : Int := (((l.take k).getLast?).map Ent.t).getD t
theorem upT_zero (t : Int) (l : List Ent) : upT t l 0 = t := by simp [upT]
theorem upT_succ (t : Int) (l : List Ent) (k : Nat) (hk : k < l.length) : upT t l (k + 1) = l[k].t := by
  unfold upT
  rw [List.take_succ_eq_append_getElem hk, List.getLast?_concat]
  rfl
/-- terms fall, at the one that comes next -/
theorem fallF_at (t : Int) (l : List Ent) (k : Nat) (hk : k < l.length) (h : l[k].t < upT t l k) : fallF t l = true := by
  induction l generalizing t k with
  | nil => simp at hk
  | cons e l ih =>
    unfold fallF
    cases k with
    | zero =>
      rw [upT_zero] at h
      simp at h
      simp [h]
    | succ k =>
      have e1 : upT t (e :: l) (k + 1) = upT e.t l k := by
        cases k with
        | zero => simp [upT]
        | succ k =>
          have hk' : k < l.length := by simp at hk; omega
          rw [upT_succ _ _ _ (by simp; omega), upT_succ _ _ _ hk']
          simp
      rw [e1] at h
      simp only [List.getElem_cons_succ] at h
      rw [ih e.t k (by simpa using hk) h]
      simp
/-- they don't, as far as they have been looked at -/
theorem fallF_none (t : Int) (l : List Ent) (h : ∀ (k : Nat) (hk : k < l.length), upT t l k ≤ l[k].t) : fallF t l = false := by
  induction l generalizing t with
  | nil => rfl
  | cons e l ih =>
    unfold fallF
    have h0 := h 0 (by simp)
    rw [upT_zero] at h0
    simp at h0
    rw [ih e.t (fun k hk => ?_)]
    · simp; omega
    · have := h (k + 1) (by simpa using hk)
      have e1 : upT t (e :: l) (k + 1) = upT e.t l k := by
        cases k with
        | zero => simp [upT]
        | succ k =>
          rw [upT_succ _ _ _ (by simp; omega), upT_succ _ _ _ (by omega)]
          simp
      rw [e1] at this
      simpa using this
theorem termF_at {es : List Ent} {j : Nat} (hj : j < es.length) : termF es ((j : Int) + 1) = (es[j].t, true) := by
  unfold termF
  rw [if_neg (by omega), if_neg (by omega)]
  have : ((j : Int) + 1 - 1).toNat = j := by omega
  rw [this, List.getElem?_eq_getElem hj]
  rfl
theorem termF_zero (es : List Ent) : termF es 0 = (0, true) := by
  unfold termF
  rw [if_neg (by omega), if_pos rfl]
theorem termF_out {es : List Ent} {i : Int} (h : i < 0 ∨ (es.length : Int) < i) : termF es i = (0, false) := by
  unfold termF
  rw [if_pos h]
end Go.Proofs.Ytlggkeoihpcdiaa

/- Numbers as bytes, highest first, and back: plain facts. No program is named. -/
namespace Go.Proofs.Ytlggkeoihpcdiaa

/-- the k lowest bytes of N, the highest first -/
def be (N : Nat) : Nat → List UInt8
  | 0 => []
  | k + 1 => UInt8.ofNat (N / 256 ^ k) :: be N k
@[simp] theorem be_length (N k : Nat) : (be N k).length = k := by
  induction k with
  | zero => rfl
  | succ k ih => simp [be, ih]
/-- the number of bytes, the highest first -/
def num : List UInt8 → Nat
  | [] => 0
  | x :: l => x.toNat * 256 ^ l.length + num l
theorem num_lt (l : List UInt8) : num l < 256 ^ l.length := by
  induction l with
  | nil => simp [num]
  | cons x l ih =>
    have hx : x.toNat < 256 := UInt8.toNat_lt x
    have h1 : (x.toNat + 1) * 256 ^ l.length ≤ 256 * 256 ^ l.length := Nat.mul_le_mul_right _ (by omega)
    rw [Nat.add_mul] at h1
    simp only [num, List.length_cons, Nat.pow_succ]
    omega
theorem num_snoc (l : List UInt8) (x : UInt8) : num (l ++ [x]) = num l * 256 + x.toNat := by
  induction l with
  | nil => simp [num]
  | cons y l ih =>
    simp only [List.cons_append, num, ih, List.length_append, List.length_cons, List.length_nil, Nat.zero_add, Nat.pow_succ, Nat.add_mul, Nat.mul_assoc]
    omega
theorem num_take_succ (l : List UInt8) (k : Nat) (h : k < l.length) : num (l.take (k + 1)) = num (l.take k) * 256 + l[k].toNat := by
  rw [List.take_succ_eq_append_getElem h, num_snoc]
theorem num_be (N k : Nat) : num (be N k) = N % 256 ^ k := by
  induction k with
  | zero => simp [be, num, Nat.mod_one]
  | succ k ih =>
    have h : N % (256 ^ k * 256) = N % 256 ^ k + 256 ^ k * (N / 256 ^ k % 256) := Nat.mod_mul
    rw [Nat.pow_succ, h]
    simp only [be, num, be_length, ih, UInt8.toNat_ofNat', show (2 : Nat) ^ 8 = 256 from rfl]
    rw [Nat.mul_comm (N / 256 ^ k % 256)]
    omega
theorem num_take_bd (l : List UInt8) (k : Nat) (h : k < 8) : num (l.take k) * 256 + 255 < 18446744073709551616 := by
  have h1 := num_lt (l.take k)
  have h2 : (l.take k).length ≤ k := List.length_take_le _ _
  have h3 : 256 ^ (l.take k).length ≤ 256 ^ 7 := Nat.pow_le_pow_right (by omega) (by omega)
  have h4 : (256 : Nat) ^ 7 = 72057594037927936 := by decide
  omega
/-- two numbers below 2^64 whose bytes are the same are the same -/
theorem be_inj {N M : Nat} (hN : N < 18446744073709551616) (hM : M < 18446744073709551616) (h : be N 8 = be M 8) : N = M := by
  have h1 := num_be N 8
  have h2 := num_be M 8
  rw [h, h2] at h1
  have h4 : (256 : Nat) ^ 8 = 18446744073709551616 := by decide
  rw [h4, Nat.mod_eq_of_lt hN, Nat.mod_eq_of_lt hM] at h1
  exact h1.symm
/-- shifted by eight bits, and a byte laid into the place -/
theorem shl_or_byte (a : Nat) (x : UInt8) : (a * 256 ||| x.toNat) = a * 256 + x.toNat := by
  have hx : x.toNat < 2 ^ 8 := UInt8.toNat_lt x
  have := Nat.two_pow_add_eq_or_of_lt hx a
  rw [show 2 ^ 8 * a = a * 256 from by omega] at this
  exact this.symm
end Go.Proofs.Ytlggkeoihpcdiaa
