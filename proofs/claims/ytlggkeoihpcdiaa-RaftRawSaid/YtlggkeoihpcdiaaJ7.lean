/- A raft node, as a plain record, and how it lies in memory. -/
import Derived.BigQuiet
import Derived.Test.YtlggkeoihpcdiaaJ3
import Derived.Test.YtlggkeoihpcdiaaJ4
import Derived.Test.YtlggkeoihpcdiaaJ6
namespace Go.Proofs.Ytlggkeoihpcdiaa
open Go.RowKit

/-- a message -/
structure MsgM where
  k : Int
  f : Int
  t : Int
  term : Int
  i : Int
  lt : Int
  c : Int
  yes : Bool
  es : List Ent
/-- what a leader knows of another one -/
structure PeerM where
  has : Int
  next : Int
structure NodeM where
  id : Int
  n : Int
  el : Int
  be : Int
  term : Int
  vote : Int
  log : List Ent
  commit : Int
  role : Int
  leader : Int
  since : Int
  yes : Nat
  heard : Nat
  peers : List PeerM
  out : List MsgM
  fresh : Bool
  fr : Int

/-- a message in memory: where its entries lie -/
structure MsgL where
  m : MsgM
  A : Option Addr
  n : Nat
  c : Nat
def MsgL.cells (y : MsgL) : List Value := [.int .i64 y.m.k, .int .i64 y.m.f, .int .i64 y.m.t, .int .i64 y.m.term, .int .i64 y.m.i, .int .i64 y.m.lt, .int .i64 y.m.c, .bool y.m.yes, .slice y.A y.n y.c]
def MsgL.v (y : MsgL) : Value := .agg #[.int .i64 y.m.k, .int .i64 y.m.f, .int .i64 y.m.t, .int .i64 y.m.term, .int .i64 y.m.i, .int .i64 y.m.lt, .int .i64 y.m.c, .bool y.m.yes, .slice y.A y.n y.c]
def mcs (ml : List MsgL) : List Value := ml.flatMap MsgL.cells
def PeerM.cells (p : PeerM) : List Value := [.int .i64 p.has, .int .i64 p.next]
def pcs (ps : List PeerM) : List Value := ps.flatMap PeerM.cells
theorem mcs_append (a b : List MsgL) : mcs (a ++ b) = mcs a ++ mcs b := by simp [mcs]
theorem mcs_one (ml : List MsgL) : ∀ u ∈ mcs ml, u.oneCell' = true := by
  intro u hu
  obtain ⟨x, _, hx⟩ := List.mem_flatMap.1 hu
  simp only [MsgL.cells, List.mem_cons, List.not_mem_nil, or_false] at hx
  rcases hx with rfl | rfl | rfl | rfl | rfl | rfl | rfl | rfl | rfl <;> rfl
theorem pcs_one (ps : List PeerM) : ∀ u ∈ pcs ps, u.oneCell' = true := by
  intro u hu
  obtain ⟨x, _, hx⟩ := List.mem_flatMap.1 hu
  simp only [PeerM.cells, List.mem_cons, List.not_mem_nil, or_false] at hx
  rcases hx with rfl | rfl <;> rfl

/-- how a node lies in memory -/
structure NodeL where
  gl : Nat
  fl : Option Nat
  Ap : Option Addr
  cp : Nat
  Ao : Option Addr
  co : Nat
  ml : List MsgL
/-- a node's cells -/
def ncells (x : NodeM) (L : NodeL) : Array Value :=
  #[.int .i64 x.id, .int .i64 x.n, .int .i64 x.el, .int .i64 x.be, .int .i64 x.term, .int .i64 x.vote, .pointer (some ⟨L.gl, 0, none⟩), .int .i64 x.commit, .int .i64 x.role, .int .i64 x.leader, .int .i64 x.since, .int .u64 (x.yes : Int), .int .u64 (x.heard : Int), .slice L.Ap x.peers.length L.cp, .slice L.Ao L.ml.length L.co, .bool x.fresh, .int .i64 x.fr]
/-- the node x lies in block g, so -/
structure NodeR (w : World) (base g : Nat) (x : NodeM) (L : NodeL) : Prop where
  blk : Blk w g 109 (ncells x L)
  base_le : base ≤ g
  log : LogAt w base L.gl L.fl x.log
  peers : FreeN 2 w base 152 L.Ap x.peers.length L.cp (pcs x.peers)
  out : FreeN 9 w base 61 L.Ao L.ml.length L.co (mcs L.ml)
  msgs : L.ml.map MsgL.m = x.out
  rows : ∀ y ∈ L.ml, y.m.es.length = y.n ∧ FreeN 2 w base 73 y.A y.n y.c (ecs y.m.es) ∧ (∀ k, foot y.A y.c = some k → L.fl ≠ some k)
/-- the blocks that a node's calls may turn -/
def NodeL.has (g : Nat) (L : NodeL) (k : Nat) : Prop := k = g ∨ k = L.gl ∨ L.fl = some k ∨ foot L.Ap L.cp = some k ∨ foot L.Ao L.co = some k
/-- the node x lies in block g; S: the blocks that its calls may turn -/
def NodeAt (w : World) (base g : Nat) (x : NodeM) (S : Nat → Prop) : Prop := ∃ L, NodeR w base g x L ∧ ∀ k, S k ↔ L.has g k
/-- only the blocks S, and what is new, have turned -/
structure Turn (S : Nat → Prop) (a w : World) : Prop where
  os : w.os = a.os
  tape : w.tape = a.tape
  output : w.output = a.output
  size : a.heap.size ≤ w.heap.size
  block : ∀ k, k < a.heap.size → ¬ S k → w.heap[k]? = a.heap[k]?
  peers : ∀ k cs, Blk a k 152 cs → w.heap[k]? = a.heap[k]?
/-- what a node's call leaves -/
def NMoves (w : World) (base g : Nat) (S : Nat → Prop) (x : NodeM) (w' : World) : Prop :=
  ∃ S', NodeAt w' base g x S' ∧ Turn S w w' ∧ ∀ k, S' k → S k ∨ (w.heap.size ≤ k ∧ k < w'.heap.size)

section
variable {w w' : World} {base g : Nat} {x x' : NodeM} {L : NodeL} {S : Nat → Prop}
theorem Turn.refl (S : Nat → Prop) (w : World) : Turn S w w := ⟨rfl, rfl, rfl, Nat.le_refl _, fun _ _ _ => rfl, fun _ _ _ => rfl⟩
theorem Turn.below {B : Nat} (h : Turn S w w') (hB : B ≤ w.heap.size) (hS : ∀ k, S k → B ≤ k) : Below B w w' := ⟨h.os, h.tape, h.output, h.size, fun k hk => h.block k (by omega) (fun hs => by have := hS k hs; omega)⟩
theorem Turn.of_below (h : Below w.heap.size w w') : Turn S w w' := ⟨h.os, h.tape, h.output, h.size, fun k hk _ => h.block k hk, fun k _ hb => h.block k hb.lt⟩
theorem NodeR.base_has (h : NodeR w base g x L) {k : Nat} (hk : L.has g k) : base ≤ k := by
  rcases hk with rfl | rfl | hk | hk | hk
  · exact h.base_le
  · exact h.log.base_le
  · exact (h.log.foot_at k hk).1
  · exact (h.peers.foot_at k hk).1
  · exact (h.out.foot_at k hk).1
theorem NodeR.has_lt (h : NodeR w base g x L) {k : Nat} (hk : L.has g k) : k < w.heap.size := by
  rcases hk with rfl | rfl | hk | hk | hk
  · exact h.blk.lt
  · exact h.log.lt
  · obtain ⟨_, cur, hB⟩ := h.log.foot_at k hk; exact hB.lt
  · obtain ⟨_, cur, hB⟩ := h.peers.foot_at k hk; exact hB.lt
  · obtain ⟨_, cur, hB⟩ := h.out.foot_at k hk; exact hB.lt
theorem NodeAt.base_has (h : NodeAt w base g x S) : ∀ k, S k → base ≤ k := fun k hk => by
  obtain ⟨L, hL, hS⟩ := h
  exact hL.base_has ((hS k).1 hk)
theorem NodeAt.has_lt (h : NodeAt w base g x S) : ∀ k, S k → k < w.heap.size := fun k hk => by
  obtain ⟨L, hL, hS⟩ := h
  exact hL.has_lt ((hS k).1 hk)
theorem NodeAt.lt (h : NodeAt w base g x S) : g < w.heap.size := by
  obtain ⟨L, hL, _⟩ := h
  exact hL.blk.lt
/-- in a world that is as it was below -/
theorem NodeR.on (h : NodeR w base g x L) (hb : Below w.heap.size w w') : NodeR w' base g x L :=
  ⟨h.blk.below hb h.blk.lt, h.base_le, h.log.on hb, h.peers.on hb, h.out.on hb, h.msgs, fun y hy => ⟨(h.rows y hy).1, (h.rows y hy).2.1.on hb, (h.rows y hy).2.2⟩⟩
theorem NodeAt.on (h : NodeAt w base g x S) (hb : Below w.heap.size w w') : NodeAt w' base g x S := by
  obtain ⟨L, hL, hS⟩ := h
  exact ⟨L, hL.on hb, hS⟩
theorem NMoves.same (h : NodeAt w base g x S) : NMoves w base g S x w := ⟨S, h, Turn.refl _ _, fun _ hk => .inl hk⟩
theorem NMoves.on (h : NodeAt w base g x S) (hb : Below w.heap.size w w') : NMoves w base g S x w' := ⟨S, h.on hb, Turn.of_below hb, fun _ hk => .inl hk⟩
theorem Turn.trans {S1 : Nat → Prop} {w1 w2 : World} (h : Turn S w w1) (k : Turn S1 w1 w2) (hs : ∀ i, S1 i → S i ∨ (w.heap.size ≤ i ∧ i < w1.heap.size)) : Turn S w w2 :=
  ⟨k.os.trans h.os, k.tape.trans h.tape, k.output.trans h.output, Nat.le_trans h.size k.size, fun i hi hn => (k.block i (Nat.lt_of_lt_of_le hi h.size) (fun h1 => (hs i h1).elim hn (fun h2 => by omega))).trans (h.block i hi hn), fun i cs hb => (k.peers i cs ((h.peers i cs hb).trans hb)).trans (h.peers i cs hb)⟩
/-- two calls, one behind the other -/
theorem NMoves.trans {S1 : Nat → Prop} {w1 w2 : World} (ht : Turn S w w1) (hs : ∀ i, S1 i → S i ∨ (w.heap.size ≤ i ∧ i < w1.heap.size)) (k : NMoves w1 base g S1 x' w2) : NMoves w base g S x' w2 := by
  obtain ⟨S2, h1, h2, h3⟩ := k
  refine ⟨S2, h1, ht.trans h2 hs, fun i hi => ?_⟩
  rcases h3 i hi with h4 | h4
  · rcases hs i h4 with h5 | h5
    · exact .inl h5
    · exact .inr ⟨h5.1, Nat.lt_of_lt_of_le h5.2 h2.size⟩
  · exact .inr ⟨Nat.le_trans ht.size h4.1, h4.2⟩
/-- blocks of a node's own: they lie apart -/
theorem NodeR.far_log (h : NodeR w base g x L) : g ≠ L.gl := by
  obtain ⟨A, c, hb, _⟩ := h.log
  exact h.blk.apart hb (by decide)
theorem NodeR.far_fl (h : NodeR w base g x L) : ∀ k, L.fl = some k → k ≠ g := fun k hk => by
  obtain ⟨_, cur, hB⟩ := h.log.foot_at k hk
  exact hB.apart h.blk (by decide)
theorem NodeR.far_p (h : NodeR w base g x L) : ∀ k, foot L.Ap L.cp = some k → k ≠ g := fun k hk => by
  obtain ⟨_, cur, hB⟩ := h.peers.foot_at k hk
  exact hB.apart h.blk (by decide)
theorem NodeR.far_o (h : NodeR w base g x L) : ∀ k, foot L.Ao L.co = some k → k ≠ g := fun k hk => by
  obtain ⟨_, cur, hB⟩ := h.out.foot_at k hk
  exact hB.apart h.blk (by decide)
theorem LogAt.far {gl : Nat} {f : Option Nat} {es : List Ent} (h : LogAt w base gl f es) {p : Addr} (h1 : gl ≠ p.block) (h2 : ∀ k, f = some k → k ≠ p.block) (u : Value) : LogAt (w.setCell p u) base gl f es := by
  obtain ⟨A, c, hb, hg, hf, rfl⟩ := h
  exact ⟨A, c, hb.far h1 u, hg, hf.far h2 u, rfl⟩
/-- one of a node's own cells turns -/
theorem NodeR.set (h : NodeR w base g x L) (i : Nat) (u : Value) (hc : (ncells x L).setIfInBounds i u = ncells x' L) (h1 : x'.log = x.log) (h2 : x'.peers = x.peers) (h3 : x'.out = x.out) : NodeR (w.setCell ⟨g, i, none⟩ u) base g x' L := by
  refine ⟨by rw [← hc]; exact h.blk.set_ i u, h.base_le, ?_, ?_, ?_, by rw [h3]; exact h.msgs, fun y hy => ⟨(h.rows y hy).1, ?_, (h.rows y hy).2.2⟩⟩
  · rw [h1]
    exact h.log.far (p := ⟨g, i, none⟩) (Ne.symm h.far_log) h.far_fl u
  · rw [h2]
    exact h.peers.far (p := ⟨g, i, none⟩) h.far_p u
  · exact h.out.far (p := ⟨g, i, none⟩) h.far_o u
  · refine (h.rows y hy).2.1.far (p := ⟨g, i, none⟩) (fun k hk => ?_) u
    obtain ⟨_, cur, hB⟩ := (h.rows y hy).2.1.foot_at k hk
    exact hB.apart h.blk (by decide)
theorem Turn.set_ {a : World} (h : Turn S a w) (hg : S g ∧ ∃ cs, Blk a g 109 cs) (i : Nat) (u : Value) : Turn S a (w.setCell ⟨g, i, none⟩ u) :=
  ⟨h.os, h.tape, h.output, by simpa [World.setCell] using h.size, fun k hk hn => (Below.heap_setCell w _ u k (fun e => by have e9 : k = g := e; subst e9; exact hn hg.1)).trans (h.block k hk hn), fun k cs hb => (Below.heap_setCell w _ u k (fun e => by obtain ⟨cs2, hb2⟩ := hg.2; exact hb.apart hb2 (by decide) e)).trans (h.peers k cs hb)⟩
/-- what is known of a node's cells -/
theorem NodeR.cells (h : NodeR w base g x L) :
    (w.cell? ⟨g, 0, none⟩ = some (.int .i64 x.id) ∧ w.cell? ⟨g, 1, none⟩ = some (.int .i64 x.n) ∧ w.cell? ⟨g, 2, none⟩ = some (.int .i64 x.el) ∧ w.cell? ⟨g, 3, none⟩ = some (.int .i64 x.be)) ∧
    (w.cell? ⟨g, 4, none⟩ = some (.int .i64 x.term) ∧ w.cell? ⟨g, 5, none⟩ = some (.int .i64 x.vote) ∧ w.cell? ⟨g, 6, none⟩ = some (.pointer (some ⟨L.gl, 0, none⟩)) ∧ w.cell? ⟨g, 7, none⟩ = some (.int .i64 x.commit)) ∧
    (w.cell? ⟨g, 8, none⟩ = some (.int .i64 x.role) ∧ w.cell? ⟨g, 9, none⟩ = some (.int .i64 x.leader) ∧ w.cell? ⟨g, 10, none⟩ = some (.int .i64 x.since) ∧ w.cell? ⟨g, 11, none⟩ = some (.int .u64 (x.yes : Int))) ∧
    (w.cell? ⟨g, 12, none⟩ = some (.int .u64 (x.heard : Int)) ∧ w.cell? ⟨g, 13, none⟩ = some (.slice L.Ap x.peers.length L.cp) ∧ w.cell? ⟨g, 14, none⟩ = some (.slice L.Ao L.ml.length L.co) ∧ w.cell? ⟨g, 15, none⟩ = some (.bool x.fresh) ∧ w.cell? ⟨g, 16, none⟩ = some (.int .i64 x.fr)) := by
  have hc := fun i => h.blk.cell i
  exact ⟨⟨hc 0, hc 1, hc 2, hc 3⟩, ⟨hc 4, hc 5, hc 6, hc 7⟩, ⟨hc 8, hc 9, hc 10, hc 11⟩, ⟨hc 12, hc 13, hc 14, hc 15, hc 16⟩⟩
theorem NodeAt.cell (h : NodeAt w base g x S) : ∃ L, NodeR w base g x L ∧ ∀ k, S k ↔ L.has g k := h
theorem NodeAt.own (h : NodeAt w base g x S) : S g ∧ ∃ cs, Blk w g 109 cs := by
  obtain ⟨L, hL, hS⟩ := h
  exact ⟨(hS g).2 (.inl rfl), _, hL.blk⟩
end

/-! ### plain facts -/
theorem toNat_u64 {n : Nat} (h : n < 18446744073709551616) : IntKind.u64.wrap (n : Int) = (n : Int) := by rw [IntKind.wrap_u64]; omega
end Go.Proofs.Ytlggkeoihpcdiaa

/- The walks of package raft's small readers. -/
namespace Go.Proofs.Ytlggkeoihpcdiaa
open Go.RowKit

set_option maxRecDepth 100000 in
/-- raft.within -/
theorem rwithin_any (n a b : Int) (r : Bool) (hr : (decide (a ≤ n) && decide (n ≤ b)) = r) (w : World) :
    Calls Try.prog 51 #[.int .i64 n, .int .i64 a, .int .i64 b] w fun e w' => e = .returned (.bool r) ∧ w' = w := by
  by_cases h1 : a ≤ n
  · by_cases h2 : n ≤ b
    · have hr' : r = true := by rw [← hr, decide_eq_true h1, decide_eq_true h2]; rfl
      subst hr'
      clear hr
      go_enter Try.func51, Try.ntmps51
      go_wp2_with fail
      go_ret
      exact ⟨rfl, rfl⟩
    · have hr' : r = false := by rw [← hr, decide_eq_false h2, Bool.and_false]
      subst hr'
      clear hr
      go_enter Try.func51, Try.ntmps51
      go_wp2_with fail
      go_ret
      exact ⟨rfl, rfl⟩
  · have hr' : r = false := by rw [← hr, decide_eq_false h1, Bool.false_and]
    subst hr'
    clear hr
    go_enter Try.func51, Try.ntmps51
    go_wp2_with fail
    go_ret
    exact ⟨rfl, rfl⟩

set_option maxRecDepth 100000 in
/-- (*raft.Node).made -/
theorem made_any (base g : Nat) (x : NodeM) (S : Nat → Prop) (w : World) (h : NodeAt w base g x S) (hn : 0 < x.n) :
    Calls Try.prog 53 #[.pointer (some ⟨g, 0, none⟩)] w fun e w' => e = .returned (.bool true) ∧ w' = w := by
  obtain ⟨L, hL, _⟩ := h.cell
  obtain ⟨⟨c0, c1, c2, c3⟩, _⟩ := hL.cells
  clear hL h
  go_enter Try.func53, Try.ntmps53
  go_wp2_with fail
  go_ret
  exact ⟨rfl, rfl⟩
set_option maxRecDepth 100000 in
theorem made_nil (w : World) :
    Calls Try.prog 53 #[.pointer none] w fun e w' => e = .returned (.bool false) ∧ w' = w := by
  go_enter Try.func53, Try.ntmps53
  go_wp2_with fail
  go_ret
  exact ⟨rfl, rfl⟩

set_option maxRecDepth 100000 in
/-- (*raft.Node).Role -/
theorem nRole_any (base g : Nat) (x : NodeM) (S : Nat → Prop) (w : World) (h : NodeAt w base g x S) (hn : 0 < x.n) :
    Calls Try.prog 31 #[.pointer (some ⟨g, 0, none⟩)] w fun e w' => e = .returned (.int .i64 x.role) ∧ w' = w := by
  obtain ⟨L, hL, _⟩ := h.cell
  obtain ⟨⟨c0, c1, c2, c3⟩, ⟨c4, c5, c6, c7⟩, ⟨c8, c9, c10, c11⟩, ⟨c12, c13, c14, c15, c16⟩⟩ := hL.cells
  have HM := Lib.hid (made_any base g x S w h hn)
  clear hL h hn
  go_enter Try.func31, Try.ntmps31
  go_wp2_with (refine HM.out.mono ?_; rintro e w1 ⟨rfl, rfl⟩)
  go_ret
  exact ⟨rfl, rfl⟩

set_option maxRecDepth 100000 in
theorem nRole_nil (w : World) :
    Calls Try.prog 31 #[.pointer none] w fun e w' => e = .returned (.int .i64 0) ∧ w' = w := by
  have HM := Lib.hid (made_nil w)
  go_enter Try.func31, Try.ntmps31
  go_wp2_with (refine HM.out.mono ?_; rintro e w1 ⟨rfl, rfl⟩)
  go_ret
  exact ⟨rfl, rfl⟩

set_option maxRecDepth 100000 in
/-- (*raft.Node).Term -/
theorem nTerm_any (base g : Nat) (x : NodeM) (S : Nat → Prop) (w : World) (h : NodeAt w base g x S) (hn : 0 < x.n) :
    Calls Try.prog 36 #[.pointer (some ⟨g, 0, none⟩)] w fun e w' => e = .returned (.int .i64 x.term) ∧ w' = w := by
  obtain ⟨L, hL, _⟩ := h.cell
  obtain ⟨⟨c0, c1, c2, c3⟩, ⟨c4, c5, c6, c7⟩, ⟨c8, c9, c10, c11⟩, ⟨c12, c13, c14, c15, c16⟩⟩ := hL.cells
  have HM := Lib.hid (made_any base g x S w h hn)
  clear hL h hn
  go_enter Try.func36, Try.ntmps36
  go_wp2_with (refine HM.out.mono ?_; rintro e w1 ⟨rfl, rfl⟩)
  go_ret
  exact ⟨rfl, rfl⟩

set_option maxRecDepth 100000 in
theorem nTerm_nil (w : World) :
    Calls Try.prog 36 #[.pointer none] w fun e w' => e = .returned (.int .i64 0) ∧ w' = w := by
  have HM := Lib.hid (made_nil w)
  go_enter Try.func36, Try.ntmps36
  go_wp2_with (refine HM.out.mono ?_; rintro e w1 ⟨rfl, rfl⟩)
  go_ret
  exact ⟨rfl, rfl⟩

set_option maxRecDepth 100000 in
/-- (*raft.Node).Leader -/
theorem nLeader_any (base g : Nat) (x : NodeM) (S : Nat → Prop) (w : World) (h : NodeAt w base g x S) (hn : 0 < x.n) :
    Calls Try.prog 40 #[.pointer (some ⟨g, 0, none⟩)] w fun e w' => e = .returned (.int .i64 x.leader) ∧ w' = w := by
  obtain ⟨L, hL, _⟩ := h.cell
  obtain ⟨⟨c0, c1, c2, c3⟩, ⟨c4, c5, c6, c7⟩, ⟨c8, c9, c10, c11⟩, ⟨c12, c13, c14, c15, c16⟩⟩ := hL.cells
  have HM := Lib.hid (made_any base g x S w h hn)
  clear hL h hn
  go_enter Try.func40, Try.ntmps40
  go_wp2_with (refine HM.out.mono ?_; rintro e w1 ⟨rfl, rfl⟩)
  go_ret
  exact ⟨rfl, rfl⟩

set_option maxRecDepth 100000 in
theorem nLeader_nil (w : World) :
    Calls Try.prog 40 #[.pointer none] w fun e w' => e = .returned (.int .i64 (-1)) ∧ w' = w := by
  have HM := Lib.hid (made_nil w)
  go_enter Try.func40, Try.ntmps40
  go_wp2_with (refine HM.out.mono ?_; rintro e w1 ⟨rfl, rfl⟩)
  go_ret
  exact ⟨rfl, rfl⟩

set_option maxRecDepth 100000 in
/-- (*raft.Node).Commit -/
theorem nCommit_any (base g : Nat) (x : NodeM) (S : Nat → Prop) (w : World) (h : NodeAt w base g x S) (hn : 0 < x.n) :
    Calls Try.prog 35 #[.pointer (some ⟨g, 0, none⟩)] w fun e w' => e = .returned (.int .i64 x.commit) ∧ w' = w := by
  obtain ⟨L, hL, _⟩ := h.cell
  obtain ⟨⟨c0, c1, c2, c3⟩, ⟨c4, c5, c6, c7⟩, ⟨c8, c9, c10, c11⟩, ⟨c12, c13, c14, c15, c16⟩⟩ := hL.cells
  have HM := Lib.hid (made_any base g x S w h hn)
  clear hL h hn
  go_enter Try.func35, Try.ntmps35
  go_wp2_with (refine HM.out.mono ?_; rintro e w1 ⟨rfl, rfl⟩)
  go_ret
  exact ⟨rfl, rfl⟩

set_option maxRecDepth 100000 in
theorem nCommit_nil (w : World) :
    Calls Try.prog 35 #[.pointer none] w fun e w' => e = .returned (.int .i64 0) ∧ w' = w := by
  have HM := Lib.hid (made_nil w)
  go_enter Try.func35, Try.ntmps35
  go_wp2_with (refine HM.out.mono ?_; rintro e w1 ⟨rfl, rfl⟩)
  go_ret
  exact ⟨rfl, rfl⟩

set_option maxRecDepth 100000 in
/-- (*raft.Node).Last -/
theorem nLast_any (base g : Nat) (x : NodeM) (S : Nat → Prop) (w : World) (h : NodeAt w base g x S) (hn : 0 < x.n) (hl : x.log.length ≤ 1048576) :
    Calls Try.prog 33 #[.pointer (some ⟨g, 0, none⟩)] w fun e w' => e = .returned (.int .i64 (x.log.length : Int)) ∧ w' = w := by
  obtain ⟨L, hL, _⟩ := h.cell
  obtain ⟨_, ⟨c4, c5, c6, c7⟩, _⟩ := hL.cells
  have HM := Lib.hid (made_any base g x S w h hn)
  have HL := Lib.hid (lLast_any base L.gl L.fl x.log w hL.log (by omega))
  clear hL h hn
  go_enter Try.func33, Try.ntmps33
  go_wp2_with (first
    | (refine HM.out.mono ?_; rintro e w1 ⟨rfl, rfl⟩)
    | (refine HL.out.mono ?_; rintro e w1 ⟨rfl, rfl⟩))
  go_ret
  exact ⟨rfl, rfl⟩
end Go.Proofs.Ytlggkeoihpcdiaa

/- The walks of package raft's follow and unsaved; of math/bits.OnesCount for few nodes, and of most. -/
namespace Go.Proofs.Ytlggkeoihpcdiaa
open Go.RowKit

def followF (x : NodeM) (t l : Int) : NodeM :=
  if x.term < t then { x with term := t, vote := -1, fresh := true, role := 0, leader := l } else { x with role := 0, leader := l }
def unsavedF (x : NodeM) (i : Int) : NodeM := if 0 < i ∧ (x.fr = 0 ∨ i < x.fr) then { x with fr := i } else x

/-- a node's own cells have turned -/
theorem NMoves.of {w w' : World} {base g : Nat} {x' : NodeM} {L : NodeL} {S : Nat → Prop} (hS : ∀ k, S k ↔ L.has g k) (h : NodeR w' base g x' L) (ht : Turn S w w') : NMoves w base g S x' w' :=
  ⟨S, ⟨L, h, hS⟩, ht, fun _ hk => .inl hk⟩

set_option maxRecDepth 100000 in
/-- (*raft.Node).follow -/
theorem follow_any (base g : Nat) (x : NodeM) (t l : Int) (S : Nat → Prop) (w : World) (h : NodeAt w base g x S) :
    Calls Try.prog 79 #[.pointer (some ⟨g, 0, none⟩), .int .i64 t, .int .i64 l] w fun e w' => e = .returned (.tuple #[]) ∧ NMoves w base g S (followF x t l) w' := by
  obtain ⟨L, hL, hS⟩ := h.cell
  have hg := h.own
  obtain ⟨⟨c0, c1, c2, c3⟩, ⟨c4, c5, c6, c7⟩, ⟨c8, c9, c10, c11⟩, ⟨c12, c13, c14, c15, c16⟩⟩ := hL.cells
  have f4 := hL.blk.frozen 4
  have f5 := hL.blk.frozen 5
  have f8 := hL.blk.frozen 8
  have f9 := hL.blk.frozen 9
  have f15 := hL.blk.frozen 15
  have HL := Lib.hid hL
  have HS := Lib.hid hS
  have HG := Lib.hid hg
  clear hL hS hg h
  unfold followF
  by_cases ht : x.term < t
  · rw [if_pos ht]
    go_enter Try.func79, Try.ntmps79
    go_wp2_with fail
    go_end0
    have h1 := HL.out.set 4 (.int .i64 t) (x' := { x with term := t }) rfl rfl rfl rfl
    have h2 := h1.set 5 (.int .i64 (-1)) (x' := { x with term := t, vote := -1 }) rfl rfl rfl rfl
    have h3 := h2.set 15 (.bool true) (x' := { x with term := t, vote := -1, fresh := true }) rfl rfl rfl rfl
    have h4 := h3.set 8 (.int .i64 0) (x' := { x with term := t, vote := -1, fresh := true, role := 0 }) rfl rfl rfl rfl
    have h5 := h4.set 9 (.int .i64 l) (x' := { x with term := t, vote := -1, fresh := true, role := 0, leader := l }) rfl rfl rfl rfl
    exact ⟨rfl, NMoves.of HS.out h5 (((((Turn.refl S w).set_ HG.out 4 _).set_ HG.out 5 _).set_ HG.out 15 _).set_ HG.out 8 _ |>.set_ HG.out 9 _)⟩
  · rw [if_neg ht]
    go_enter Try.func79, Try.ntmps79
    go_wp2_with fail
    go_end0
    have h4 := HL.out.set 8 (.int .i64 0) (x' := { x with role := 0 }) rfl rfl rfl rfl
    have h5 := h4.set 9 (.int .i64 l) (x' := { x with role := 0, leader := l }) rfl rfl rfl rfl
    exact ⟨rfl, NMoves.of HS.out h5 (((Turn.refl S w).set_ HG.out 8 _).set_ HG.out 9 _)⟩

set_option maxRecDepth 100000 in
/-- (*raft.Node).unsaved -/
theorem unsaved_any (base g : Nat) (x : NodeM) (i : Int) (S : Nat → Prop) (w : World) (h : NodeAt w base g x S) :
    Calls Try.prog 89 #[.pointer (some ⟨g, 0, none⟩), .int .i64 i] w fun e w' => e = .returned (.tuple #[]) ∧ NMoves w base g S (unsavedF x i) w' := by
  obtain ⟨L, hL, hS⟩ := h.cell
  have hg := h.own
  obtain ⟨_, _, _, ⟨c12, c13, c14, c15, c16⟩⟩ := hL.cells
  have f16 := hL.blk.frozen 16
  have HL := Lib.hid hL
  have HS := Lib.hid hS
  have HG := Lib.hid hg
  have H := Lib.hid h
  clear hL hS hg h
  unfold unsavedF
  by_cases h0 : 0 < i
  · by_cases h1 : x.fr = 0
    · rw [if_pos ⟨h0, .inl h1⟩]
      rw [h1] at c16
      go_enter Try.func89, Try.ntmps89
      go_wp2_with fail
      go_end0
      exact ⟨rfl, NMoves.of HS.out (HL.out.set 16 (.int .i64 i) (x' := { x with fr := i }) rfl rfl rfl rfl) ((Turn.refl S w).set_ HG.out 16 _)⟩
    · have h1' : (x.fr == 0) = false := by rw [beq_eq_false_iff_ne]; exact h1
      by_cases h2 : i < x.fr
      · rw [if_pos ⟨h0, .inr h2⟩]
        go_enter Try.func89, Try.ntmps89
        go_wp2_with fail
        go_end0
        exact ⟨rfl, NMoves.of HS.out (HL.out.set 16 (.int .i64 i) (x' := { x with fr := i }) rfl rfl rfl rfl) ((Turn.refl S w).set_ HG.out 16 _)⟩
      · rw [if_neg (fun h => h.2.elim h1 h2)]
        go_enter Try.func89, Try.ntmps89
        go_wp2_with fail
        go_end0
        exact ⟨rfl, NMoves.same H.out⟩
  · rw [if_neg (fun h => h0 h.1)]
    go_enter Try.func89, Try.ntmps89
    go_wp2_with fail
    go_end0
    exact ⟨rfl, NMoves.same H.out⟩

/-- how many bits are set -/
def popc (v : Nat) : Nat := (List.range 7).foldl (fun s i => s + (v >>> i) % 2) 0
set_option maxRecDepth 100000 in
theorem ones64_any (v : Nat) (hv : v < 128) (w : World) :
    Calls Try.prog 120 #[.int .u64 (v : Int)] w fun e w' => e = .returned (.int .i64 (popc v : Int)) ∧ w' = w := by
  have HV := Lib.hid hv
  clear hv
  go_enter Try.func120, Try.ntmps120
  go_wp2_with fail
  go_ret
  refine ⟨?_, rfl⟩
  show Ending.returned (Value.int .i64 _) = _
  congr 2
  have hv := HV.out
  clear HV
  revert hv
  revert v
  decide +kernel
set_option maxRecDepth 100000 in
theorem ones_any (v : Nat) (hv : v < 128) (w : World) :
    Calls Try.prog 103 #[.int .u64 (v : Int)] w fun e w' => e = .returned (.int .i64 (popc v : Int)) ∧ w' = w := by
  have HC := Lib.hid (ones64_any v hv)
  clear hv
  go_enter Try.func103, Try.ntmps103
  go_wp2_with fail
  refine (HC.out _).mono ?_
  rintro e w1 ⟨rfl, rfl⟩
  go_wp2_with fail
  go_ret
  exact ⟨rfl, rfl⟩
theorem popc_le (v : Nat) (hv : v < 128) : popc v ≤ 7 := by
  revert hv
  revert v
  decide +kernel

def mostF (x : NodeM) (v : Nat) : Bool := decide (x.n < 2 * (popc v : Int))
set_option maxRecDepth 100000 in
/-- (*raft.Node).most -/
theorem most_any (base g : Nat) (x : NodeM) (v : Nat) (hv : v < 128) (S : Nat → Prop) (w : World) (h : NodeAt w base g x S) :
    Calls Try.prog 78 #[.pointer (some ⟨g, 0, none⟩), .int .u64 (v : Int)] w fun e w' => e = .returned (.bool (mostF x v)) ∧ w.heap = w'.heap ∧ Below w.heap.size w w' := by
  obtain ⟨L, hL, hS⟩ := h.cell
  obtain ⟨⟨c0, c1, c2, c3⟩, _⟩ := hL.cells
  have HC := Lib.hid (ones_any v hv)
  have hp := popc_le v hv
  have hw2 : wrap64 (2 * (popc v : Int)) = 2 * (popc v : Int) := wr_64 (by omega) (by omega)
  have hw3 : IntKind.i64.wrap (2 * (popc v : Int)) = 2 * (popc v : Int) := wr_i64 (by omega) (by omega)
  clear hL hS h hp hv
  unfold mostF
  generalize popc v = k at *
  go_enter Try.func78, Try.ntmps78
  go_wp2_with fail
  go_region_with (refine (HC.out _).mono ?_; rintro e w1 ⟨rfl, rfl⟩)
  all_goals
    go_wp2_with fail
    go_ret
    exact ⟨rfl, rfl, (Below.refl _ _).drew⟩
end Go.Proofs.Ytlggkeoihpcdiaa

/- The walk of package raft's tell: a message more. -/
namespace Go.Proofs.Ytlggkeoihpcdiaa
open Go.RowKit

theorem msg_row : (Try.prog.info? 61).map (fun i => (i.zero, i.size, i.bytes)) = some (some (.agg #[.int .i64 0, .int .i64 0, .int .i64 0, .int .i64 0, .int .i64 0, .int .i64 0, .int .i64 0, .bool false, .slice none 0 0]), 9, 88) := by kernel_rfl
theorem smsg_u : Try.prog.underlying 74 = some (.slice 61) := Try.underlying74
theorem mcs_length (ml : List MsgL) : (mcs ml).length = ml.length * 9 := by
  induction ml with
  | nil => rfl
  | cons y ml ih => rw [show mcs (y :: ml) = y.cells ++ mcs ml from by simp [mcs], List.length_append, ih]; simp [MsgL.cells]; omega

section
variable {w w' : World} {base g : Nat} {x x' : NodeM} {L L' : NodeL} {S : Nat → Prop}
theorem Turn.grown {a : World} {r : Option Nat} (h : Turn S a w) (hg : w.grownBy w' r) (hr : ∀ k, r = some k → S k ∨ a.heap.size ≤ k) (hp : ∀ k, r = some k → ∃ cs, Blk w k 61 cs) : Turn S a w' :=
  ⟨hg.os.trans h.os, hg.tape.trans h.tape, hg.output.trans h.output, Nat.le_trans h.size hg.size, fun k hk hn => (hg.block k (Nat.lt_of_lt_of_le hk h.size) (fun e => by rcases hr k e.symm with h1 | h1; exact hn h1; omega)).trans (h.block k hk hn), fun k cs hb => (hg.block k (Nat.lt_of_lt_of_le hb.lt h.size) (fun e => by obtain ⟨cs2, hb2⟩ := hp k e.symm; exact Blk.apart ((h.peers k cs hb).trans hb) hb2 (by decide) rfl)).trans (h.peers k cs hb)⟩
theorem Turn.on {a : World} (h : Turn S a w) (hb : Below w.heap.size w w') : Turn S a w' :=
  ⟨hb.os.trans h.os, hb.tape.trans h.tape, hb.output.trans h.output, Nat.le_trans h.size hb.size, fun k hk hn => (hb.block k (Nat.lt_of_lt_of_le hk h.size)).trans (h.block k hk hn), fun k cs hp => (hb.block k (Nat.lt_of_lt_of_le hp.lt h.size)).trans (h.peers k cs hp)⟩
/-- another row than the node's out turns not the rest of it: behind an append onto out -/
theorem NodeR.told (h : NodeR w base g x L) {y : MsgL} {A' : Option Addr} {c' : Nat} (ha : AppendedN 9 w base 61 L.Ao L.ml.length L.co (mcs L.ml) 1 y.cells A' c' w') (hl : y.m.es.length = y.n) (hf : FreeN 2 w base 73 y.A y.n y.c (ecs y.m.es)) (hA : ∀ k, foot y.A y.c = some k → L.fl ≠ some k) :
    NodeR (w'.setCell ⟨g, 14, none⟩ (.slice A' (L.ml.length + 1) c')) base g { x with out := x.out ++ [y.m] } { L with Ao := A', co := c', ml := L.ml ++ [y] } := by
  have hg := ha.2.1
  have hne : ∀ (T : TypeId) (k : Nat) (cs : Array Value), T ≠ 61 → Blk w k T cs → some k ≠ foot L.Ao L.co := fun T k cs hT hb e => by
    obtain ⟨_, cur, hB⟩ := h.out.foot_at k e.symm
    exact hb.apart hB hT rfl
  have hrow : ∀ (A : Option Addr) (n c : Nat) (xs : List Value), FreeN 2 w base 73 A n c xs → FreeN 2 (w'.setCell ⟨g, 14, none⟩ (.slice A' (L.ml.length + 1) c')) base 73 A n c xs := fun A n c xs hx => by
    have h1 := hx.grown hg (fun k hk e => by
      obtain ⟨_, cur, hB⟩ := hx.foot_at k hk
      exact hne _ k cur (by decide) hB e)
    refine h1.far (p := ⟨g, 14, none⟩) (fun k hk => ?_) _
    obtain ⟨_, cur, hB⟩ := hx.foot_at k hk
    exact hB.apart h.blk (by decide)
  obtain ⟨Al, cl, hlb, _⟩ := h.log
  refine ⟨?_, h.base_le, ?_, ?_, ?_, ?_, ?_⟩
  · have hb := (h.blk.grown hg (hne _ g _ (by decide) h.blk)).set_ 14 (.slice A' (L.ml.length + 1) c')
    have e : (ncells x L).setIfInBounds 14 (.slice A' (L.ml.length + 1) c') = ncells { x with out := x.out ++ [y.m] } { L with Ao := A', co := c', ml := L.ml ++ [y] } := by
      simp [ncells]
    rw [← e]
    exact hb
  · refine (h.log.grown hg (hne _ L.gl _ (by decide) hlb) (fun k hk e => ?_)).far (p := ⟨g, 14, none⟩) (Ne.symm h.far_log) h.far_fl _
    obtain ⟨_, cur, hB⟩ := h.log.foot_at k hk
    exact hne _ k cur (by decide) hB e
  · refine (h.peers.grown hg (fun k hk e => ?_)).far (p := ⟨g, 14, none⟩) h.far_p _
    obtain ⟨_, cur, hB⟩ := h.peers.foot_at k hk
    exact hne _ k cur (by decide) hB e
  · have h1 := ha.1
    refine FreeN.far (p := ⟨g, 14, none⟩) ?_ (fun k hk => ?_) _
    · simp only [List.length_append, List.length_cons, List.length_nil, mcs_append]
      rw [show mcs [y] = y.cells from by simp [mcs]]
      exact h1
    · obtain ⟨_, cur, hB⟩ := h1.foot_at k hk
      exact hB.apart (h.blk.grown hg (hne _ g _ (by decide) h.blk)) (by decide)
  · simp [h.msgs]
  · intro z hz
    rcases List.mem_append.1 hz with hz | hz
    · exact ⟨(h.rows z hz).1, hrow _ _ _ _ (h.rows z hz).2.1, (h.rows z hz).2.2⟩
    · rw [List.mem_singleton.1 hz]
      exact ⟨hl, hrow _ _ _ _ hf, hA⟩
end

set_option maxRecDepth 100000 in
set_option maxHeartbeats 800000 in
/-- (*raft.Node).tell -/
theorem tell_any (base g : Nat) (x : NodeM) (m : MsgM) (A : Option Addr) (n c : Nat) (S : Nat → Prop) (w : World) (h : NodeAt w base g x S) (hl : m.es.length = n) (hf : FreeN 2 w base 73 A n c (ecs m.es)) (hA : ∀ k, foot A c = some k → ¬ S k) (hB : base ≤ w.heap.size) (ho : x.out.length ≤ 1048576) :
    Calls Try.prog 83 #[.pointer (some ⟨g, 0, none⟩), .agg #[.int .i64 m.k, .int .i64 m.f, .int .i64 m.t, .int .i64 m.term, .int .i64 m.i, .int .i64 m.lt, .int .i64 m.c, .bool m.yes, .slice A n c]] w fun e w' => e = .returned (.tuple #[]) ∧ NMoves w base g S { x with out := x.out ++ [{ m with f := x.id }] } w' := by
  obtain ⟨L, hL, hS⟩ := h.cell
  have hG := h.own
  obtain ⟨i0, hi0, hz0, hz1, hz2⟩ := info_parts msg_row
  obtain ⟨mk, mf, mt, mterm, mi, mlt, mc, myes, mes⟩ := m
  simp only at hl hf ⊢
  have hb0 := (Below.refl w.heap.size w).alloc (Nat.le_refl _) (.cells #[.int .i64 mk, .int .i64 x.id, .int .i64 mt, .int .i64 mterm, .int .i64 mi, .int .i64 mlt, .int .i64 mc, .bool myes, .slice A n c] 61)
  have hb00 := (Below.refl w.heap.size w).alloc (Nat.le_refl _) (.cells #[.int .i64 mk, .int .i64 mf, .int .i64 mt, .int .i64 mterm, .int .i64 mi, .int .i64 mlt, .int .i64 mc, .bool myes, .slice A n c] 61)
  have hM := Blk.new w 61 #[.int .i64 mk, .int .i64 x.id, .int .i64 mt, .int .i64 mterm, .int .i64 mi, .int .i64 mlt, .int .i64 mc, .bool myes, .slice A n c]
  obtain ⟨⟨c0, c1, c2, c3⟩, ⟨c4, c5, c6, c7⟩, ⟨c8, c9, c10, c11⟩, ⟨c12, c13, c14, c15, c16⟩⟩ := (hL.on hb00).cells
  have HL := Lib.hid (hL.on hb0)
  have HB0 := Lib.hid hb0
  have HM := Lib.hid hM
  have HS := Lib.hid hS
  have HG := Lib.hid hG
  have HF := Lib.hid (hf.on hb0)
  have HA := Lib.hid hA
  have HLN := Lib.hid hl
  have HML := Lib.hid (show L.ml.length ≤ 1048576 by have h9 := congrArg List.length hL.msgs; rw [List.length_map] at h9; omega)
  have HBB := Lib.hid (Nat.le_trans hB hb0.size)
  clear hL hS hG hb0 hb00 hM hf hA h hl hB ho
  go_enter Try.func83, Try.ntmps83
  go_upto_region 2 with (fail)
  generalize w.alloc (.cells #[.int .i64 mk, .int .i64 x.id, .int .i64 mt, .int .i64 mterm, .int .i64 mi, .int .i64 mlt, .int .i64 mc, .bool myes, .slice A n c] 61) = w0 at *
  clear c0 c1 c2 c3 c4 c5 c6 c7 c8 c9 c10 c11 c12 c13 c14 c15 c16
  obtain ⟨_, _, _, ⟨_, _, c14, _, _⟩⟩ := HL.out.cells
  have e0 : w0.cell? ⟨w.heap.size, 0, none⟩ = some (.int .i64 mk) := by rw [HM.out.cell]; rfl
  have e1 : w0.cell? ⟨w.heap.size, 1, none⟩ = some (.int .i64 x.id) := by rw [HM.out.cell]; rfl
  have e2 : w0.cell? ⟨w.heap.size, 2, none⟩ = some (.int .i64 mt) := by rw [HM.out.cell]; rfl
  have e3 : w0.cell? ⟨w.heap.size, 3, none⟩ = some (.int .i64 mterm) := by rw [HM.out.cell]; rfl
  have e4 : w0.cell? ⟨w.heap.size, 4, none⟩ = some (.int .i64 mi) := by rw [HM.out.cell]; rfl
  have e5 : w0.cell? ⟨w.heap.size, 5, none⟩ = some (.int .i64 mlt) := by rw [HM.out.cell]; rfl
  have e6 : w0.cell? ⟨w.heap.size, 6, none⟩ = some (.int .i64 mc) := by rw [HM.out.cell]; rfl
  have e7 : w0.cell? ⟨w.heap.size, 7, none⟩ = some (.bool myes) := by rw [HM.out.cell]; rfl
  have e8 : w0.cell? ⟨w.heap.size, 8, none⟩ = some (.slice A n c) := by rw [HM.out.cell]; rfl
  have hba := fun o => (Below.refl w0.heap.size w0).alloc (Nat.le_refl _) o
  have cA : ∀ o, (w0.alloc o).cell? ⟨g, 14, none⟩ = some (.slice L.Ao L.ml.length L.co) := fun o => ((HL.out.on (hba o)).cells).2.2.2.2.2.1
  have HBA := Lib.hid hba
  have hm1 : L.ml.length + 1 ≤ maxLen := Nat.le_trans (show L.ml.length + 1 ≤ 1048577 by have := HML.out; omega) (by decide)
  have hm2 : (L.ml.length + 1) * 88 ≤ 140737488355328 := by have := HML.out; clear hm1; omega
  have h1c : ∀ u ∈ MsgL.cells ⟨⟨mk, x.id, mt, mterm, mi, mlt, mc, myes, mes⟩, A, n, c⟩, u.oneCell' = true := by intro u hu; simp [MsgL.cells] at hu; rcases hu with rfl | rfl | rfl | rfl | rfl | rfl | rfl | rfl | rfl <;> rfl
  have HOUT := Lib.hid ((HL.out.out).on (HBA.out (.cells #[.int .i64 mk, .int .i64 x.id, .int .i64 mt, .int .i64 mterm, .int .i64 mi, .int .i64 mlt, .int .i64 mc, .bool myes, .slice A n c] 61)))
  have HSZ := Lib.hid (Nat.le_trans HBB.out (HBA.out (.cells #[.int .i64 mk, .int .i64 x.id, .int .i64 mt, .int .i64 mterm, .int .i64 mi, .int .i64 mlt, .int .i64 mc, .bool myes, .slice A n c] 61)).size)
  clear hba
  go_region_law (
    refine step_append_freeN (sz := 9) rfl (.tmp 13) (.tmp 15) 74 rfl base 61 i0 _ 88 smsg_u hi0 hz0 hz1 hz2 rfl (by decide) L.Ao L.ml.length L.co (mcs L.ml) (by rfl) HOUT.out (w0.alloc (.cells #[.int .i64 mk, .int .i64 x.id, .int .i64 mt, .int .i64 mterm, .int .i64 mi, .int .i64 mlt, .int .i64 mc, .bool myes, .slice A n c] 61)).heap.size (some ⟨w0.heap.size, 0, none⟩) 1 1 (MsgL.cells ⟨⟨mk, x.id, mt, mterm, mi, mlt, mc, myes, mes⟩, A, n, c⟩) (by rfl) (by exact sees_new w0 #[.int .i64 mk, .int .i64 x.id, .int .i64 mt, .int .i64 mterm, .int .i64 mi, .int .i64 mlt, .int .i64 mc, .bool myes, .slice A n c] 61) h1c hm1 hm2 HSZ.out ?_
    intro A2 c2 w3 ha
    have ha' : AppendedN 9 (w0.alloc (.cells #[.int .i64 mk, .int .i64 x.id, .int .i64 mt, .int .i64 mterm, .int .i64 mi, .int .i64 mlt, .int .i64 mc, .bool myes, .slice A n c] 61)) base 61 L.Ao L.ml.length L.co (mcs L.ml) 1 (MsgL.cells ⟨⟨mk, x.id, mt, mterm, mi, mlt, mc, myes, mes⟩, A, n, c⟩) A2 c2 w3 := ha.same rfl rfl rfl rfl
    have HA2 := Lib.hid ha'
    have hb3 := ((HL.out.on (HBA.out _)).blk.grown ha'.2.1 (fun e => HL.out.far_o g e.symm rfl))
    have c14 : w3.cell? ⟨g, 14, none⟩ = some (.slice L.Ao L.ml.length L.co) := (by rw [hb3.cell]; rfl)
    have f14 := hb3.frozen 14
    clear ha ha' hb3)
  all_goals
    go_wp2_with fail
    go_end0
    have hn := NodeR.told (HL.out.on (HBA.out _)) (y := ⟨⟨mk, x.id, mt, mterm, mi, mlt, mc, myes, mes⟩, A, n, c⟩) HA2.out HLN.out (HF.out.on (HBA.out _)) (fun k hk e => HA.out k hk ((HS.out k).2 (.inr (.inr (.inl e)))))
    refine ⟨rfl, _, ⟨_, hn, fun k => Iff.rfl⟩, ?_, fun k hk => ?_⟩
    · refine Turn.set_ (Turn.grown (Turn.of_below (HB0.out.trans ((HBA.out _).mono HB0.out.size))) HA2.out.2.1 (fun k hk => .inl ((HS.out k).2 (.inr (.inr (.inr (.inr hk)))))) (fun k hk => by obtain ⟨_, cur, hC⟩ := HOUT.out.foot_at k hk; exact ⟨cur, hC⟩)) HG.out 14 _
    · have hlt := hn.has_lt hk
      rcases hk with hk | hk | hk | hk | hk
      · exact .inl ((HS.out k).2 (.inl hk))
      · exact .inl ((HS.out k).2 (.inr (.inl hk)))
      · exact .inl ((HS.out k).2 (.inr (.inr (.inl hk))))
      · exact .inl ((HS.out k).2 (.inr (.inr (.inr (.inl hk)))))
      · rcases HA2.out.2.2 with h9 | ⟨q, h9, h8⟩
        · exact .inl ((HS.out k).2 (.inr (.inr (.inr (.inr (h9 ▸ hk))))))
        · have e9 : q = k := by
            have := h9.symm.trans hk
            injection this
          subst e9
          exact .inr ⟨Nat.le_trans HB0.out.size (Nat.le_trans (HBA.out (.cells #[.int .i64 mk, .int .i64 x.id, .int .i64 mt, .int .i64 mterm, .int .i64 mi, .int .i64 mlt, .int .i64 mc, .bool myes, .slice A n c] 61)).size h8), hlt⟩
end Go.Proofs.Ytlggkeoihpcdiaa

/- The walks of package raft's askAll, send and sendAll. -/
namespace Go.Proofs.Ytlggkeoihpcdiaa
open Go.RowKit

def tellF (x : NodeM) (m : MsgM) : NodeM := { x with out := x.out ++ [{ m with f := x.id }] }
def askStep (i lt kd tm : Int) (y : NodeM) (j : Nat) : NodeM := if (j : Int) = y.id then y else tellF y ⟨kd, 0, j, tm, i, lt, 0, false, []⟩
def askAllF (x : NodeM) (kd tm : Int) : NodeM := (List.range x.n.toNat).foldl (askStep x.log.length (lastT x.log) kd tm) x
def sendF (x : NodeM) (j : Nat) : NodeM :=
  let p := x.peers.getD j ⟨0, 0⟩
  tellF x ⟨5, 0, j, x.term, p.next - 1, (termF x.log (p.next - 1)).1, x.commit, false, fromF x.log p.next 8⟩
def sendStep (y : NodeM) (j : Nat) : NodeM := if (j : Int) = y.id then y else sendF y j
def sendAllF (x : NodeM) : NodeM := (List.range x.n.toNat).foldl sendStep x

/-- only out has turned, and has so many more at most -/
structure Outs (x y : NodeM) (k : Nat) : Prop where
  id : y.id = x.id
  n : y.n = x.n
  term : y.term = x.term
  log : y.log = x.log
  commit : y.commit = x.commit
  peers : y.peers = x.peers
  out : y.out.length ≤ x.out.length + k
theorem Outs.refl (x : NodeM) (k : Nat) : Outs x x k := ⟨rfl, rfl, rfl, rfl, rfl, rfl, Nat.le_add_right _ _⟩
theorem Outs.tell {x y : NodeM} {k : Nat} (h : Outs x y k) (m : MsgM) : Outs x (tellF y m) (k + 1) := ⟨h.id, h.n, h.term, h.log, h.commit, h.peers, by have := h.out; simp [tellF]; omega⟩
theorem Outs.more {x y : NodeM} {k : Nat} (h : Outs x y k) : Outs x y (k + 1) := ⟨h.id, h.n, h.term, h.log, h.commit, h.peers, by have := h.out; omega⟩
theorem Outs.ask {x y : NodeM} {k : Nat} (h : Outs x y k) (i lt kd tm : Int) (j : Nat) : Outs x (askStep i lt kd tm y j) (k + 1) := by
  unfold askStep
  split
  · exact h.more
  · exact h.tell _
theorem Outs.send {x y : NodeM} {k : Nat} (h : Outs x y k) (j : Nat) : Outs x (sendStep y j) (k + 1) := by
  unfold sendStep
  split
  · exact h.more
  · exact h.tell _

set_option maxRecDepth 100000 in
set_option maxHeartbeats 800000 in
/-- (*raft.Node).askAll -/
theorem askAll_any (base g : Nat) (x : NodeM) (kd tm : Int) (S : Nat → Prop) (w : World) (h : NodeAt w base g x S) (hn0 : 0 < x.n) (hn : x.n ≤ 7) (hl : x.log.length ≤ 1048576) (hB : base ≤ w.heap.size) (ho : x.out.length ≤ 1000000) :
    Calls Try.prog 80 #[.pointer (some ⟨g, 0, none⟩), .int .i64 kd, .int .i64 tm] w fun e w' => e = .returned (.tuple #[]) ∧ NMoves w base g S (askAllF x kd tm) w' := by
  obtain ⟨L, hL, _⟩ := h.cell
  obtain ⟨⟨c0, c1, c2, c3⟩, ⟨c4, c5, c6, c7⟩, _⟩ := hL.cells
  have HLL := Lib.hid (lLast_any base L.gl L.fl x.log w hL.log (by omega))
  obtain ⟨n, hxn⟩ : ∃ n : Nat, x.n = n := ⟨x.n.toNat, by omega⟩
  have HT := Lib.hid (show askAllF x kd tm = (List.range n).foldl (askStep x.log.length (lastT x.log) kd tm) x by unfold askAllF; rw [hxn]; rfl)
  have H := Lib.hid h
  have HB := Lib.hid hB
  have HO := Lib.hid ho
  have HN := Lib.hid (show n ≤ 7 by omega)
  rw [hxn] at c1
  generalize (x.log.length : Int) = i at *
  generalize lastT x.log = lt at *
  clear hL h hB ho hn0 hn hl
  go_enter Try.func80, Try.ntmps80
  go_wp2_with fail
  refine HLL.out.mono ?_
  rintro e w1 ⟨rfl, rfl⟩
  go_wp2_with fail
  clear c0 c1 c2 c3 c4 c5 c6 c7 HLL
  go_loopw [21] (fun iv wr => ∃ k : Nat, k ≤ n ∧ iv = .int .i64 (k : Int) ∧ NMoves w1 base g S ((List.range k).foldl (askStep i lt kd tm) x) wr ∧ Outs x ((List.range k).foldl (askStep i lt kd tm) x) k) (fun iv _ => n - (intOf iv).toNat)
  case atStart => exact ⟨0, Nat.zero_le _, rfl, NMoves.same H.out, Outs.refl _ _⟩
  case round =>
    obtain ⟨k, hk, rfl, hnm, hou⟩ := hrel
    by_cases hlt : k < n
    · obtain ⟨S', hna, htu, hsu⟩ := hnm
      have hlt' : (k : Int) < (n : Int) := by omega
      have hk7 : (k : Int) ≤ 7 := by have := HN.out; omega
      have hst : (List.range (k + 1)).foldl (askStep i lt kd tm) x = askStep i lt kd tm ((List.range k).foldl (askStep i lt kd tm) x) k := by rw [List.range_succ, List.foldl_append]; rfl
      have hou2 := hou.ask i lt kd tm k
      generalize (List.range k).foldl (askStep i lt kd tm) x = y at *
      obtain ⟨L', hL', _⟩ := hna.cell
      obtain ⟨⟨c0, _⟩, _⟩ := hL'.cells
      have HST := Lib.hid hst
      have HOU := Lib.hid hou2
      have HTU := Lib.hid htu
      have HSU := Lib.hid hsu
      have HNA := Lib.hid hna
      have HK := Lib.hid hlt
      have HTE := Lib.hid (tell_any base g y ⟨kd, 0, k, tm, i, lt, 0, false, []⟩ none 0 0 S' wr hna rfl (FreeN.nil _ _ _ _) (fun q hq => by simp [foot] at hq) (Nat.le_trans HB.out htu.size) (by have h1 := hou.out; have h2 := HO.out; have h3 := HN.out; omega))
      clear hst hou hou2 htu hsu hna hL' hlt hk
      by_cases hid : (k : Int) = y.id
      · have hid2 : ((k : Int) != y.id) = false := by rw [hid]; simp
        have HAS := Lib.hid (show askStep i lt kd tm y k = y by unfold askStep; rw [if_pos hid])
        rw [← hid] at c0
        clear hid HTE
        go_wp2_with fail
        go_roundw
        case rel => exact ⟨k + 1, HK.out, by go_num, by rw [HST.out, HAS.out]; exact ⟨S', HNA.out, HTU.out, HSU.out⟩, by rw [HST.out]; exact HOU.out⟩
        case measure => have := HK.out; simp [intOf]; omega
      · have hid2 : ((k : Int) != y.id) = true := by simp [hid]
        have HAS := Lib.hid (show askStep i lt kd tm y k = tellF y ⟨kd, 0, k, tm, i, lt, 0, false, []⟩ by unfold askStep; rw [if_neg hid])
        go_wp2_with fail
        refine HTE.out.mono ?_
        rintro e w3 ⟨rfl, hm⟩
        have HM := Lib.hid (NMoves.trans HTU.out HSU.out hm)
        clear hm c0
        go_wp2_with fail
        go_roundw
        case rel => exact ⟨k + 1, HK.out, by go_num, by rw [HST.out, HAS.out]; exact HM.out, by rw [HST.out]; exact HOU.out⟩
        case measure => have := HK.out; simp [intOf]; omega
    · have hlt' : ¬ (k : Int) < (n : Int) := by omega
      obtain rfl : k = n := by omega
      have HM := Lib.hid hnm
      clear hnm hou
      go_wp2_with fail
      go_end0
      rw [HT.out]
      exact ⟨rfl, HM.out⟩
end Go.Proofs.Ytlggkeoihpcdiaa

/- The walks of package raft's send and sendAll. -/
namespace Go.Proofs.Ytlggkeoihpcdiaa
open Go.RowKit

theorem pcs_get : ∀ (ps : List PeerM) (j : Nat) (hj : j < ps.length), (pcs ps)[j * 2]? = some (.int .i64 ps[j].has) ∧ (pcs ps)[j * 2 + 1]? = some (.int .i64 ps[j].next)
  | r :: rs, 0, _ => ⟨rfl, rfl⟩
  | r :: rs, j + 1, hj => by
    have ih := pcs_get rs j (by simpa using hj)
    have e : pcs (r :: rs) = .int .i64 r.has :: .int .i64 r.next :: pcs rs := rfl
    rw [e, show (j + 1) * 2 = j * 2 + 1 + 1 from by omega, show j * 2 + 1 + 1 + 1 = (j * 2 + 1) + 1 + 1 from by omega]
    simp only [List.getElem?_cons_succ, List.getElem_cons_succ]
    exact ih
/-- a leader's knowledge of one -/
theorem NodeR.peer {w : World} {base g : Nat} {x : NodeM} {L : NodeL} (h : NodeR w base g x L) {j : Nat} (hj : j < x.peers.length) :
    ∃ b off, L.Ap = some ⟨b, off, none⟩ ∧ b < w.heap.size ∧ w.cell? ⟨b, off + j * 2, none⟩ = some (.int .i64 x.peers[j].has) ∧ w.cell? ⟨b, off + j * 2 + 1, none⟩ = some (.int .i64 x.peers[j].next) := by
  obtain ⟨b, off, hA, hb, hc⟩ := h.peers.sees.2 (by omega)
  obtain ⟨g1, g2⟩ := pcs_get x.peers j hj
  exact ⟨b, off, hA, hb, hc _ _ g1, by rw [show off + j * 2 + 1 = off + (j * 2 + 1) from by omega]; exact hc _ _ g2⟩

set_option maxRecDepth 100000 in
set_option maxHeartbeats 800000 in
/-- (*raft.Node).send -/
theorem send_any (base g : Nat) (x : NodeM) (j : Nat) (S : Nat → Prop) (w : World) (h : NodeAt w base g x S) (hj : j < x.peers.length) (hp : 1 ≤ x.peers[j].next ∧ x.peers[j].next ≤ 1099511627776) (hl : x.log.length ≤ 1048576) (hB : base ≤ w.heap.size) (ho : x.out.length ≤ 1048576) (hj7 : j ≤ 7) :
    Calls Try.prog 91 #[.pointer (some ⟨g, 0, none⟩), .int .i64 (j : Int)] w fun e w' => e = .returned (.tuple #[]) ∧ NMoves w base g S (sendF x j) w' := by
  obtain ⟨L, hL, hS⟩ := h.cell
  obtain ⟨_, ⟨c4, c5, c6, c7⟩, _, ⟨c12, c13, c14, c15, c16⟩⟩ := hL.cells
  obtain ⟨b, off, hAp, hbl, d0, d1⟩ := hL.peer hj
  have hfp : sendF x j = tellF x ⟨5, 0, j, x.term, x.peers[j].next - 1, (termF x.log (x.peers[j].next - 1)).1, x.commit, false, fromF x.log x.peers[j].next 8⟩ := by
    unfold sendF
    rw [List.getD_eq_getElem?_getD, List.getElem?_eq_getElem hj]
    rfl
  rw [hfp]
  generalize x.peers[j].next = nx at *
  generalize x.peers[j].has = hsx at *
  have HLT := Lib.hid (lTerm_any base L.gl L.fl x.log (nx - 1) w hL.log (by omega))
  have HLF := Lib.hid (lFrom_any base L.gl L.fl x.log nx 8 w hL.log (by omega) (by omega))
  have hw1 : wrap64 (nx - 1) = nx - 1 := wr_64 (by omega) (by omega)
  have hw2 : IntKind.i64.wrap (nx - 1) = nx - 1 := wr_i64 (by omega) (by omega)
  have hjp : (j : Int) < (x.peers.length : Int) := by omega
  have hj0 : (0 : Int) ≤ (j : Int) := by omega
  have H := Lib.hid h
  have HB := Lib.hid hB
  have HO := Lib.hid ho
  rw [hAp] at c13
  clear hj hL hfp
  generalize x.peers.length = np at *
  generalize (termF x.log (nx - 1)).1 = at_ at *
  clear hS h hB ho hp hl
  go_enter Try.func91, Try.ntmps91
  go_wp2_with fail
  refine HLT.out.mono ?_
  rintro e w1 ⟨rfl, rfl⟩
  go_wp2_with fail
  refine HLF.out.mono ?_
  rintro e w2 ⟨A, n, c, rfl, hn, hf, hb2⟩
  have hna2 := H.out.on hb2
  obtain ⟨L2, hL2, _⟩ := hna2.cell
  have HB2 := Lib.hid hb2
  have HNA := Lib.hid hna2
  have HTE := Lib.hid (fun W (hW : Below w2.heap.size w2 W) => tell_any base g x ⟨5, 0, j, x.term, nx - 1, at_, x.commit, false, fromF x.log nx 8⟩ A n c S W (HNA.out.on hW) hn ((hf.mono (base' := base) HB.out).on hW) (fun k hk hs => by have h1 := (hf.foot_at k hk).1; have h2 := H.out.has_lt k hs; omega) (Nat.le_trans HB.out (Nat.le_trans hb2.size hW.size)) HO.out)
  clear c4 c5 c6 c7 c12 c13 c14 c15 c16 d0 d1 HLT HLF hf
  obtain ⟨_, ⟨c4, c5, c6, c7⟩, _⟩ := hL2.cells
  clear hL2 hna2
  go_wp2_with fail
  go_region_with (refine (HTE.out _ ((Below.refl _ _).drew)).mono ?_; rintro e w3 ⟨rfl, hm⟩)
  all_goals
    obtain ⟨S3, h1, h2, h3⟩ := hm
    go_wp2_with fail
    go_end0
    refine ⟨rfl, NMoves.trans (S1 := S) (w1 := w2) (Turn.of_below HB2.out) (fun _ hk => .inl hk) ?_⟩
    exact ⟨S3, h1, ⟨h2.os, h2.tape, h2.output, h2.size, h2.block, h2.peers⟩, h3⟩
end Go.Proofs.Ytlggkeoihpcdiaa

/- The walk of package raft's sendAll. -/
namespace Go.Proofs.Ytlggkeoihpcdiaa
open Go.RowKit

set_option maxRecDepth 100000 in
set_option maxHeartbeats 800000 in
/-- (*raft.Node).sendAll -/
theorem sendAll_any (base g : Nat) (x : NodeM) (S : Nat → Prop) (w : World) (h : NodeAt w base g x S) (hn0 : 0 < x.n) (hn : x.n ≤ 7) (hl : x.log.length ≤ 1048576) (hB : base ≤ w.heap.size) (ho : x.out.length ≤ 1000000) (hpl : x.n ≤ x.peers.length) (hpn : ∀ p ∈ x.peers, 1 ≤ p.next ∧ p.next ≤ 1099511627776) :
    Calls Try.prog 61 #[.pointer (some ⟨g, 0, none⟩)] w fun e w' => e = .returned (.tuple #[]) ∧ NMoves w base g S (sendAllF x) w' := by
  obtain ⟨L, hL, _⟩ := h.cell
  obtain ⟨⟨c0, c1, c2, c3⟩, ⟨c4, c5, c6, c7⟩, _⟩ := hL.cells
  obtain ⟨n, hxn⟩ : ∃ n : Nat, x.n = n := ⟨x.n.toNat, by omega⟩
  have HT := Lib.hid (show sendAllF x = (List.range n).foldl sendStep x by unfold sendAllF; rw [hxn]; rfl)
  have H := Lib.hid h
  have HB := Lib.hid hB
  have HO := Lib.hid ho
  have HN := Lib.hid (show n ≤ 7 by omega)
  rw [hxn] at c1
  have HPL := Lib.hid (show n ≤ x.peers.length by omega)
  have HPN := Lib.hid hpn
  have HLL := Lib.hid hl
  clear hL h hB ho hn0 hn hl hpl hpn
  go_enter Try.func61, Try.ntmps61
  go_wp2_with fail
  clear c0 c1 c2 c3 c4 c5 c6 c7
  go_loopw [7] (fun iv wr => ∃ k : Nat, k ≤ n ∧ iv = .int .i64 (k : Int) ∧ NMoves w base g S ((List.range k).foldl (sendStep) x) wr ∧ Outs x ((List.range k).foldl (sendStep) x) k) (fun iv _ => n - (intOf iv).toNat)
  case atStart => exact ⟨0, Nat.zero_le _, rfl, NMoves.same H.out, Outs.refl _ _⟩
  case round =>
    obtain ⟨k, hk, rfl, hnm, hou⟩ := hrel
    by_cases hlt : k < n
    · obtain ⟨S', hna, htu, hsu⟩ := hnm
      have hlt' : (k : Int) < (n : Int) := by omega
      have hk7 : (k : Int) ≤ 7 := by have := HN.out; omega
      have hst : (List.range (k + 1)).foldl (sendStep) x = sendStep ((List.range k).foldl (sendStep) x) k := by rw [List.range_succ, List.foldl_append]; rfl
      have hou2 := hou.send k
      generalize (List.range k).foldl (sendStep) x = y at *
      obtain ⟨L', hL', _⟩ := hna.cell
      obtain ⟨⟨c0, _⟩, _⟩ := hL'.cells
      have HST := Lib.hid hst
      have HOU := Lib.hid hou2
      have HTU := Lib.hid htu
      have HSU := Lib.hid hsu
      have HNA := Lib.hid hna
      have HK := Lib.hid hlt
      have hkp : k < y.peers.length := by rw [hou.peers]; have := HPL.out; omega
      have HTE := Lib.hid (send_any base g y k S' wr hna hkp (HPN.out _ (by rw [← hou.peers]; exact List.getElem_mem hkp)) (by rw [hou.log]; exact HLL.out) (Nat.le_trans HB.out htu.size) (by have h1 := hou.out; have h2 := HO.out; have h3 := HN.out; omega) (by have := HN.out; omega))
      clear hst hou hou2 htu hsu hna hL' hlt hk hkp
      by_cases hid : (k : Int) = y.id
      · have hid2 : ((k : Int) != y.id) = false := by rw [hid]; simp
        have HAS := Lib.hid (show sendStep y k = y by unfold sendStep; rw [if_pos hid])
        rw [← hid] at c0
        clear hid HTE
        go_wp2_with fail
        go_roundw
        case rel => exact ⟨k + 1, HK.out, by go_num, by rw [HST.out, HAS.out]; exact ⟨S', HNA.out, HTU.out, HSU.out⟩, by rw [HST.out]; exact HOU.out⟩
        case measure => have := HK.out; simp [intOf]; omega
      · have hid2 : ((k : Int) != y.id) = true := by simp [hid]
        have HAS := Lib.hid (show sendStep y k = sendF y k by unfold sendStep; rw [if_neg hid])
        go_wp2_with fail
        refine HTE.out.mono ?_
        rintro e w3 ⟨rfl, hm⟩
        have HM := Lib.hid (NMoves.trans HTU.out HSU.out hm)
        clear hm c0
        go_wp2_with fail
        go_roundw
        case rel => exact ⟨k + 1, HK.out, by go_num, by rw [HST.out, HAS.out]; exact HM.out, by rw [HST.out]; exact HOU.out⟩
        case measure => have := HK.out; simp [intOf]; omega
    · have hlt' : ¬ (k : Int) < (n : Int) := by omega
      obtain rfl : k = n := by omega
      have HM := Lib.hid hnm
      clear hnm hou
      go_wp2_with fail
      go_end0
      rw [HT.out]
      exact ⟨rfl, HM.out⟩
end Go.Proofs.Ytlggkeoihpcdiaa
