/- Plain facts of entries whose terms don't fall: what is added to them, and what is put behind them. -/
import Derived.Test.YtlggkeoihpcdiaaJ4
import Derived.Test.YtlggkeoihpcdiaaJ19
namespace Go.Proofs.Ytlggkeoihpcdiaa
open Go.RowKit

/-- entries of terms from one up to T that don't fall, of data that aren't too long -/
def Okl (T : Int) (l : List Ent) : Prop := (∀ e ∈ l, 1 ≤ e.t ∧ e.t ≤ T ∧ e.s.size ≤ 512) ∧ l.Pairwise (fun a b => a.t ≤ b.t)
theorem entsOk_iff (t T : Int) (l : List Ent) : entsOk t T l = true ↔ (∀ e ∈ l, t ≤ e.t ∧ e.t ≤ T ∧ e.s.size ≤ 512) ∧ l.Pairwise (fun a b => a.t ≤ b.t) := by
  induction l generalizing t with
  | nil => simp [entsOk]
  | cons e l ih =>
    unfold entsOk
    rw [Bool.and_eq_true, Bool.and_eq_true, Bool.and_eq_true, decide_eq_true_iff, decide_eq_true_iff, decide_eq_true_iff, ih, List.pairwise_cons]
    constructor
    · rintro ⟨⟨⟨h1, h2⟩, h3⟩, h4, h5⟩
      refine ⟨fun a ha => ?_, fun a ha => (h4 a ha).1, h5⟩
      rcases List.mem_cons.1 ha with rfl | ha
      · exact ⟨h1, h2, h3⟩
      · have := h4 a ha
        exact ⟨by omega, this.2.1, this.2.2⟩
    · rintro ⟨h1, h2, h3⟩
      have h0 := h1 e List.mem_cons_self
      exact ⟨⟨⟨h0.1, h0.2.1⟩, h0.2.2⟩, fun a ha => ⟨h2 a ha, (h1 a (List.mem_cons_of_mem _ ha)).2⟩, h3⟩
theorem Okl.to {T : Int} {l : List Ent} (h : Okl T l) : entsOk 1 T l = true := (entsOk_iff 1 T l).2 h
theorem Okl.mono {T T' : Int} {l : List Ent} (h : Okl T l) (hT : T ≤ T') : Okl T' l := ⟨fun e he => ⟨(h.1 e he).1, by have := (h.1 e he).2.1; omega, (h.1 e he).2.2⟩, h.2⟩
theorem Okl.nil (T : Int) : Okl T [] := ⟨fun e he => absurd he (by simp), List.Pairwise.nil⟩

theorem term_up {es : List Ent} (hp : es.Pairwise (fun a b => a.t ≤ b.t)) (i : Int) (hi : (termF es i).2 = true) : ∀ a ∈ es.take i.toNat, a.t ≤ (termF es i).1 := by
  have hb := termF_true hi
  intro a ha
  obtain ⟨q, hq, rfl⟩ := List.mem_iff_getElem.1 ha
  rw [List.length_take] at hq
  obtain ⟨j, hj⟩ : ∃ j : Nat, i = (j : Int) + 1 := ⟨(i - 1).toNat, by omega⟩
  subst hj
  have hjl : j < es.length := by omega
  rw [List.getElem_take, termF_at hjl]
  rcases Nat.lt_or_ge q j with h9 | h9
  · exact List.pairwise_iff_getElem.1 hp q j (by omega) hjl h9
  · obtain rfl : q = j := by omega
    exact Int.le_refl _
theorem okl_add {T : Int} {l : List Ent} (h : Okl T l) (e : Ent) (he : 1 ≤ e.t ∧ e.t ≤ T ∧ e.s.size ≤ 512) (hl : lastT l ≤ e.t) : Okl T (l ++ [e]) := by
  have hf : (termF l (l.length : Int)).2 = true := by
    unfold termF
    rw [if_neg (by omega)]
    split <;> rfl
  have hu := term_up h.2 (l.length : Int) hf
  rw [Int.toNat_natCast, List.take_length] at hu
  refine ⟨fun a ha => ?_, List.pairwise_append.2 ⟨h.2, List.pairwise_singleton _ _, fun a ha b hb => ?_⟩⟩
  · rcases List.mem_append.1 ha with h9 | h9
    · exact h.1 a h9
    · rw [List.mem_singleton.1 h9]; exact he
  · rw [List.mem_singleton.1 hb]
    exact Int.le_trans (hu a ha) hl

theorem fall_sorted : ∀ (l : List Ent) (t : Int), fallF t l = false → l.Pairwise (fun a b => a.t ≤ b.t) ∧ ∀ b ∈ l, t ≤ b.t
  | [], _, _ => ⟨List.Pairwise.nil, fun b hb => absurd hb (by simp)⟩
  | e :: l, t, h => by
    unfold fallF at h
    rw [Bool.or_eq_false_iff, decide_eq_false_iff_not] at h
    obtain ⟨h1, h2⟩ := fall_sorted l e.t h.2
    refine ⟨List.pairwise_cons.2 ⟨h2, h1⟩, fun b hb => ?_⟩
    rcases List.mem_cons.1 hb with rfl | hb
    · omega
    · have := h2 b hb; omega
theorem put_sorted {es : List Ent} (hp : es.Pairwise (fun a b => a.t ≤ b.t)) : ∀ (l : List Ent) (i : Int), (termF es i).2 = true → fallF (termF es i).1 l = false → (es.take (i + thereF es i l).toNat ++ l.drop (thereF es i l)).Pairwise (fun a b => a.t ≤ b.t)
  | [], i, _, _ => by
    unfold thereF
    rw [List.drop_nil, List.append_nil]
    exact hp.sublist (List.take_sublist _ _)
  | e :: l, i, hf, h => by
    have hsort := fall_sorted _ _ h
    unfold fallF at h
    rw [Bool.or_eq_false_iff, decide_eq_false_iff_not] at h
    unfold thereF
    split
    · rename_i h9
      have h8 := put_sorted hp l (i + 1) (by rw [h9]) (by rw [h9]; exact h.2)
      rw [List.drop_succ_cons, show i + ((thereF es (i + 1) l + 1 : Nat) : Int) = i + 1 + (thereF es (i + 1) l : Int) from by omega]
      exact h8
    · rw [List.drop_zero, show i + ((0 : Nat) : Int) = i from by omega]
      refine List.pairwise_append.2 ⟨hp.sublist (List.take_sublist _ _), hsort.1, fun a ha b hb => ?_⟩
      exact Int.le_trans (term_up hp i hf a ha) (hsort.2 b hb)
/-- what is put leaves, where it can be put -/
structure PutOk (T : Int) (es : List Ent) (i : Int) (l : List Ent) (es' : List Ent) (at_ : Int) : Prop where
  i0 : 0 ≤ i
  i1 : i ≤ es.length
  ok : Okl T es'
  len : es'.length ≤ 1024
  up : i + l.length ≤ es'.length
  keep : es'.take i.toNat = es.take i.toNat
  at_ : (at_ = 0 ∧ es' = es) ∨ (0 < at_ ∧ at_ ≤ es'.length ∧ es'.take (at_ - 1).toNat = es.take (at_ - 1).toNat ∧ at_ - 1 ≤ es.length)
theorem put_bad {es : List Ent} {i t : Int} {l : List Ent} (h : (putF es i t l).2.2 ≠ 0) : (putF es i t l).1 = es := by
  unfold putF at h ⊢
  by_cases h1 : fitsF es i t l ≠ 0
  · rw [if_pos h1]
  · rw [if_neg h1] at h ⊢
    by_cases h2 : thereF es i l = l.length
    · rw [if_pos h2]
    · rw [if_neg h2] at h ⊢
      by_cases h3 : 1024 < i + l.length
      · rw [if_pos h3]
      · rw [if_neg h3] at h
        exact absurd rfl h
theorem put_ok {T : Int} {es : List Ent} {i t : Int} {l : List Ent} (h : (putF es i t l).2.2 = 0) (hs : Okl T es) (hl : ∀ e ∈ l, 1 ≤ e.t ∧ e.t ≤ T ∧ e.s.size ≤ 512) (hlen : es.length ≤ 1024) : PutOk T es i l (putF es i t l).1 (putF es i t l).2.1 := by
  unfold putF at h ⊢
  by_cases h1 : fitsF es i t l ≠ 0
  · rw [if_pos h1] at h
    exact absurd h h1
  · rw [if_neg h1] at h ⊢
    have hfit : (termF es i).2 = true ∧ (termF es i).1 = t ∧ fallF t l = false := by
      unfold fitsF at h1
      by_cases q1 : (termF es i).2 = false
      · rw [if_pos q1] at h1
        omega
      · rw [if_neg q1] at h1
        by_cases q2 : (termF es i).1 ≠ t
        · rw [if_pos q2] at h1
          omega
        · rw [if_neg q2] at h1
          refine ⟨by simpa using q1, by omega, ?_⟩
          by_cases q3 : fallF t l = true
          · rw [if_pos q3] at h1
            omega
          · simpa using q3
    obtain ⟨hf, rfl, hfa⟩ := hfit
    have hb := termF_true hf
    have hbd := thereF_bound es i l hb.2
    have hle := thereF_le es i l
    by_cases h2 : thereF es i l = l.length
    · rw [if_pos h2]
      rw [h2] at hbd
      exact ⟨hb.1, hb.2, hs, hlen, hbd, rfl, .inl ⟨rfl, rfl⟩⟩
    · rw [if_neg h2] at h ⊢
      by_cases h3 : 1024 < i + l.length
      · rw [if_pos h3] at h
        simp at h
      · rw [if_neg h3]
        have hso := put_sorted hs.2 l i hf hfa
        generalize hj : thereF es i l = j at *
        have htl : (es.take (i + (j : Int)).toNat).length = (i + (j : Int)).toNat := by rw [List.length_take]; omega
        have hlen2 : (es.take (i + (j : Int)).toNat ++ l.drop j).length = (i + l.length).toNat := by
          rw [List.length_append, htl, List.length_drop]
          omega
        refine ⟨hb.1, hb.2, ⟨fun e he => ?_, hso⟩, by simp only [hlen2]; omega, by simp only [hlen2]; omega, ?_, .inr ⟨by simp only; omega, by simp only [hlen2]; omega, ?_, by simp only; omega⟩⟩
        · rcases List.mem_append.1 he with h9 | h9
          · exact hs.1 e (List.mem_of_mem_take h9)
          · exact hl e (List.mem_of_mem_drop h9)
        · simp only
          rw [List.take_append_of_le_length (by rw [htl]; omega), List.take_take]
          congr 1
          omega
        · simp only
          rw [List.take_append_of_le_length (by rw [htl]; omega), List.take_take]
          congr 1
          omega
theorem put_in {es : List Ent} {i t : Int} {l : List Ent} (h : (putF es i t l).2.2 = 0) : 0 ≤ i ∧ i ≤ es.length := by
  unfold putF at h
  by_cases h1 : fitsF es i t l ≠ 0
  · rw [if_pos h1] at h
    exact absurd h h1
  · unfold fitsF at h1
    by_cases q1 : (termF es i).2 = false
    · rw [if_pos q1] at h1
      omega
    · exact termF_true (by simpa using q1)
theorem from_len (es : List Ent) (i m : Int) (hm : 0 ≤ m) : ((fromF es i m).length : Int) ≤ m := by
  unfold fromF
  rw [List.length_take]
  unfold fromN
  simp only
  omega
end Go.Proofs.Ytlggkeoihpcdiaa

/- Plain facts of a node to which anything may come: what never falls, what goes out, and the single steps that keep it so. -/
namespace Go.Proofs.Ytlggkeoihpcdiaa
open Go.RowKit

/-- a message that may go out -/
structure OutOk (x : NodeM) (m : MsgM) : Prop where
  f : m.f = x.id
  ne : m.t ≠ x.id
  lo : 0 ≤ m.t
  hi : m.t < x.n
  term : m.term ≤ x.term + 1 ∨ m.k = 2
  es : m.es.length ≤ 8
/-- what a call may do to a node -/
structure Adv (x y : NodeM) : Prop where
  id : y.id = x.id
  n : y.n = x.n
  el : y.el = x.el
  be : y.be = x.be
  term : x.term ≤ y.term
  vote : y.term = x.term → y.vote = x.vote ∨ x.vote = -1
  commit : x.commit ≤ y.commit
  keep : y.log.take x.commit.toNat = x.log.take x.commit.toNat
  fresh : y.fresh = false → x.fresh = false ∧ y.term = x.term ∧ y.vote = x.vote
  fr0 : y.fr = 0 → x.fr = 0 ∧ y.log = x.log
  fr1 : 0 < y.fr → (x.fr = 0 ∨ y.fr ≤ x.fr) ∧ y.log.take (y.fr - 1).toNat = x.log.take (y.fr - 1).toNat ∧ (x.fr = 0 → y.fr - 1 ≤ x.log.length)
  out : ∃ o, y.out = x.out ++ o ∧ ∀ m ∈ o, OutOk y m
/-- what is known of a node always; B: how much time has gone by at most -/
structure RawInv (B : Int) (x : NodeM) : Prop where
  n0 : 0 < x.n
  n7 : x.n ≤ 7
  id0 : 0 ≤ x.id
  id1 : x.id < x.n
  el0 : 1 ≤ x.el
  el1 : x.el ≤ 1000
  be0 : 1 ≤ x.be
  t0 : 0 ≤ x.term
  t1 : x.term ≤ 1099511627776
  v0 : -1 ≤ x.vote
  v1 : x.vote ≤ 6
  ok : Okl x.term x.log
  len : x.log.length ≤ 1024
  c0 : 0 ≤ x.commit
  c1 : x.commit ≤ x.log.length
  f0 : 0 ≤ x.fr
  f1 : x.fr ≤ x.log.length
  yes : x.yes < 128
  heard : x.heard < 128
  s0 : 0 ≤ x.since
  s1 : x.since ≤ B
  r1 : x.role = 1 → x.term < 1099511627776
  r23 : x.role = 2 ∨ x.role = 3 → 1 ≤ x.term
  lead : x.role = 3 → (x.peers.length : Int) = x.n ∧ ∀ p ∈ x.peers, (0 ≤ p.has ∧ p.has ≤ x.log.length) ∧ 1 ≤ p.next ∧ p.next ≤ x.log.length + 1
def Good (B : Int) (x y : NodeM) : Prop := RawInv B y ∧ Adv x y

section
variable {B : Int} {x y z : NodeM}
theorem OutOk.up {m : MsgM} (h : OutOk y m) (k : Adv y z) : OutOk z m := ⟨h.f.trans k.id.symm, by rw [k.id]; exact h.ne, h.lo, by rw [k.n]; exact h.hi, h.term.imp (fun h9 => by have := k.term; omega) id, h.es⟩
theorem Adv.refl (x : NodeM) : Adv x x :=
  ⟨rfl, rfl, rfl, rfl, Int.le_refl _, fun _ => .inl rfl, Int.le_refl _, rfl, fun h => ⟨h, rfl, rfl⟩, fun h => ⟨h, rfl⟩, fun h9 => ⟨.inr (Int.le_refl _), rfl, fun h0 => by omega⟩, [], by simp, by simp⟩
theorem take_less {α : Type} {a b : List α} {p q : Nat} (h : a.take p = b.take p) (hq : q ≤ p) : a.take q = b.take q := by
  have h1 := congrArg (List.take q) h
  rw [List.take_take, List.take_take, show min q p = q by omega] at h1
  exact h1
theorem Adv.trans (h : Adv x y) (k : Adv y z) (hy : 0 ≤ y.fr) : Adv x z := by
  refine ⟨k.id.trans h.id, k.n.trans h.n, k.el.trans h.el, k.be.trans h.be, Int.le_trans h.term k.term, fun e => ?_, Int.le_trans h.commit k.commit, (take_less k.keep (by have := h.commit; omega)).trans h.keep, fun e => ?_, fun e => ?_, fun e => ?_, ?_⟩
  · have e1 : y.term = x.term := by have := h.term; have := k.term; omega
    rcases k.vote (by omega) with e2 | e2
    · rw [e2]; exact h.vote e1
    · rcases h.vote e1 with e3 | e3
      · exact .inr (by rw [← e3]; exact e2)
      · exact .inr e3
  · obtain ⟨a, b, c⟩ := k.fresh e
    obtain ⟨a2, b2, c2⟩ := h.fresh a
    exact ⟨a2, b.trans b2, c.trans c2⟩
  · obtain ⟨a, b⟩ := k.fr0 e
    obtain ⟨a2, b2⟩ := h.fr0 a
    exact ⟨a2, b.trans b2⟩
  · obtain ⟨a, b, c⟩ := k.fr1 e
    by_cases hz : y.fr = 0
    · obtain ⟨a2, b2⟩ := h.fr0 hz
      rw [b2] at b c
      exact ⟨.inl a2, b, fun _ => c hz⟩
    · have hlt : z.fr ≤ y.fr := by rcases a with a | a; exact absurd a hz; exact a
      obtain ⟨a2, b2, c2⟩ := h.fr1 (by omega)
      refine ⟨?_, b.trans (take_less b2 (by omega)), fun h0 => by have := c2 h0; omega⟩
      rcases a2 with a2 | a2
      · exact .inl a2
      · exact .inr (by omega)
  · obtain ⟨o1, e1, g1⟩ := h.out
    obtain ⟨o2, e2, g2⟩ := k.out
    refine ⟨o1 ++ o2, by rw [e2, e1, List.append_assoc], fun m hm => ?_⟩
    rcases List.mem_append.1 hm with h9 | h9
    · exact (g1 m h9).up k
    · exact g2 m h9
theorem Good.refl (h : RawInv B x) : Good B x x := ⟨h, Adv.refl x⟩
theorem Good.trans (h : Good B x y) (k : Good B y z) : Good B x z := ⟨k.1, h.2.trans k.2 h.1.f0⟩
theorem RawInv.mono {B' : Int} (h : RawInv B x) (hB : B ≤ B') : RawInv B' x := ⟨h.n0, h.n7, h.id0, h.id1, h.el0, h.el1, h.be0, h.t0, h.t1, h.v0, h.v1, h.ok, h.len, h.c0, h.c1, h.f0, h.f1, h.yes, h.heard, h.s0, Int.le_trans h.s1 hB, h.r1, h.r23, h.lead⟩

/-- what doesn't touch term, vote, entries and what is committed -/
theorem good_side {B' : Int} (h : RawInv B x) (r l s : Int) (yv hv : Nat) (ps : List PeerM) (hs0 : 0 ≤ s) (hs : s ≤ B') (hy : yv < 128) (hh : hv < 128) (h1 : r = 1 → x.term < 1099511627776) (h23 : r = 2 ∨ r = 3 → 1 ≤ x.term) (hp : r = 3 → (ps.length : Int) = x.n ∧ ∀ p ∈ ps, (0 ≤ p.has ∧ p.has ≤ x.log.length) ∧ 1 ≤ p.next ∧ p.next ≤ x.log.length + 1) :
    Good B' x { x with role := r, leader := l, since := s, yes := yv, heard := hv, peers := ps } :=
  ⟨⟨h.n0, h.n7, h.id0, h.id1, h.el0, h.el1, h.be0, h.t0, h.t1, h.v0, h.v1, h.ok, h.len, h.c0, h.c1, h.f0, h.f1, hy, hh, hs0, hs, h1, h23, hp⟩, ⟨rfl, rfl, rfl, rfl, Int.le_refl _, fun _ => .inl rfl, Int.le_refl _, rfl, fun h => ⟨h, rfl, rfl⟩, fun h => ⟨h, rfl⟩, fun h9 => ⟨.inr (Int.le_refl _), rfl, fun h0 => by have h8 : 0 < x.fr := h9; omega⟩, [], by simp, by simp⟩⟩

/-- only messages that may go out have come -/
def Tells (x y : NodeM) : Prop := ∃ o, y = { x with out := x.out ++ o } ∧ ∀ m ∈ o, OutOk x m
theorem Tells.refl (x : NodeM) : Tells x x := ⟨[], by simp, by simp⟩
theorem Tells.trans (h : Tells x y) (k : Tells y z) : Tells x z := by
  obtain ⟨o, rfl, g⟩ := h
  obtain ⟨o2, rfl, g2⟩ := k
  refine ⟨o ++ o2, by simp, fun m hm => ?_⟩
  rcases List.mem_append.1 hm with h9 | h9
  · exact g m h9
  · have h8 := g2 m h9
    exact ⟨h8.f, h8.ne, h8.lo, h8.hi, h8.term, h8.es⟩
theorem Tells.good (t : Tells x y) (h : RawInv B x) : Good B x y := by
  obtain ⟨o, rfl, g⟩ := t
  exact ⟨⟨h.n0, h.n7, h.id0, h.id1, h.el0, h.el1, h.be0, h.t0, h.t1, h.v0, h.v1, h.ok, h.len, h.c0, h.c1, h.f0, h.f1, h.yes, h.heard, h.s0, h.s1, h.r1, h.r23, h.lead⟩, ⟨rfl, rfl, rfl, rfl, Int.le_refl _, fun _ => .inl rfl, Int.le_refl _, rfl, fun h => ⟨h, rfl, rfl⟩, fun h => ⟨h, rfl⟩, fun h9 => ⟨.inr (Int.le_refl _), rfl, fun h0 => by have h8 : 0 < x.fr := h9; omega⟩, o, rfl, fun m hm => ⟨(g m hm).f, (g m hm).ne, (g m hm).lo, (g m hm).hi, (g m hm).term, (g m hm).es⟩⟩⟩
theorem Tells.role (t : Tells x y) : y.role = x.role := by
  obtain ⟨o, rfl, g⟩ := t
  rfl
theorem tells_one (x : NodeM) (m : MsgM) (ne : m.t ≠ x.id) (lo : 0 ≤ m.t) (hi : m.t < x.n) (ht : m.term ≤ x.term + 1 ∨ m.k = 2) (he : m.es.length ≤ 8) : Tells x (tellF x m) := by
  refine ⟨[{ m with f := x.id }], rfl, fun m' hm => ?_⟩
  rw [List.mem_singleton.1 hm]
  exact ⟨rfl, ne, lo, hi, ht, he⟩
theorem tells_fold (x : NodeM) (step : NodeM → Nat → NodeM) (hstep : ∀ (y : NodeM) (j : Nat), (∃ o, y = { x with out := o }) → (j : Int) < x.n → Tells y (step y j)) : ∀ (l : List Nat) (y : NodeM), (∃ o, y = { x with out := o }) → (∀ j ∈ l, (j : Int) < x.n) → Tells y (l.foldl step y) := by
  intro l
  induction l with
  | nil => intro y _ _; exact Tells.refl y
  | cons j l ih =>
    intro y hy hl
    have h1 := hstep y j hy (hl j List.mem_cons_self)
    obtain ⟨o, rfl⟩ := hy
    have h2 := ih (step { x with out := o } j) (by obtain ⟨o2, e, _⟩ := h1; exact ⟨_, e⟩) (fun i hi => hl i (List.mem_cons_of_mem _ hi))
    exact h1.trans h2
theorem tells_range (n : Int) : ∀ j ∈ List.range n.toNat, (j : Int) < n := fun j hj => by have := List.mem_range.1 hj; omega
theorem askAll_tells (x : NodeM) (kd tm : Int) (ht : tm ≤ x.term + 1) : Tells x (askAllF x kd tm) := by
  refine tells_fold x _ (fun y j hy hj => ?_) _ x ⟨x.out, rfl⟩ (tells_range x.n)
  obtain ⟨o, rfl⟩ := hy
  unfold askStep
  split
  · exact Tells.refl _
  · rename_i hne
    exact tells_one _ _ hne (Int.natCast_nonneg j) hj (.inl ht) (by simp)
theorem send_tells (x : NodeM) (j : Nat) (hne : (j : Int) ≠ x.id) (hj : (j : Int) < x.n) : Tells x (sendF x j) :=
  tells_one _ _ hne (Int.natCast_nonneg j) hj (.inl (by simp only; omega)) (by have := from_len x.log (x.peers.getD j ⟨0, 0⟩).next 8 (by omega); simp only; omega)
theorem sendAll_tells (x : NodeM) : Tells x (sendAllF x) := by
  refine tells_fold x _ (fun y j hy hj => ?_) _ x ⟨x.out, rfl⟩ (tells_range x.n)
  obtain ⟨o, rfl⟩ := hy
  unfold sendStep
  split
  · exact Tells.refl _
  · rename_i hne
    exact send_tells _ j hne hj

theorem good_follow (h : RawInv B x) (t l : Int) (ht : t ≤ 1099511627776) : Good B x (followF x t l) := by
  unfold followF
  split
  · rename_i hlt
    exact ⟨⟨h.n0, h.n7, h.id0, h.id1, h.el0, h.el1, h.be0, by have := h.t0; simp only; omega, ht, by simp, by simp, h.ok.mono (Int.le_of_lt hlt), h.len, h.c0, h.c1, h.f0, h.f1, h.yes, h.heard, h.s0, h.s1, fun h9 => absurd h9 (by simp), fun h9 => absurd h9 (by simp), fun h9 => absurd h9 (by simp)⟩, ⟨rfl, rfl, rfl, rfl, Int.le_of_lt hlt, fun e => absurd (show t = x.term from e) (by omega), Int.le_refl _, rfl, (fun h => by cases h), fun h => ⟨h, rfl⟩, fun h9 => ⟨.inr (Int.le_refl _), rfl, fun h0 => by have h8 : 0 < x.fr := h9; omega⟩, [], by simp, by simp⟩⟩
  · exact good_side h 0 l x.since x.yes x.heard x.peers h.s0 h.s1 h.yes h.heard (fun h9 => absurd h9 (by decide)) (fun h9 => absurd h9 (by decide)) (fun h9 => absurd h9 (by decide))

theorem most_in (h : RawInv B x) (hr : x.role = 3) : mostHas x ≤ x.log.length := by
  obtain ⟨k, hk⟩ : ∃ k : Nat, x.n = k := ⟨x.n.toNat, by have := h.n0; omega⟩
  obtain ⟨_, hp⟩ := h.lead hr
  refine most_le x k hk (by have := h.n0; omega) _ (fun a ha => ?_)
  unfold hasL at ha
  rcases List.mem_or_eq_of_mem_set ha with h9 | h9
  · unfold hasK at h9
    obtain ⟨j, hj, rfl⟩ := List.mem_map.1 h9
    split
    · rw [List.getD_eq_getElem?_getD]
      by_cases hjl : j < x.peers.length
      · rw [List.getElem?_eq_getElem hjl]
        exact (hp _ (List.getElem_mem hjl)).1.2
      · rw [List.getElem?_eq_none (by omega)]
        simp
    · omega
  · omega
theorem good_commit (h : RawInv B x) (hr : x.role = 3) : Good B x (commitF x).1 ∧ (commitF x).1.role = 3 := by
  unfold commitF
  split
  · exact ⟨Good.refl h, hr⟩
  · rename_i hc
    have hm := most_in h hr
    have hlt : x.commit < mostHas x := by
      rcases Int.lt_or_le x.commit (mostHas x) with h9 | h9
      · exact h9
      · exact absurd (Or.inl h9) hc
    have := h.c0
    exact ⟨⟨⟨h.n0, h.n7, h.id0, h.id1, h.el0, h.el1, h.be0, h.t0, h.t1, h.v0, h.v1, h.ok, h.len, by simp only; omega, hm, h.f0, h.f1, h.yes, h.heard, h.s0, h.s1, h.r1, h.r23, h.lead⟩, ⟨rfl, rfl, rfl, rfl, Int.le_refl _, fun _ => .inl rfl, Int.le_of_lt hlt, rfl, fun h => ⟨h, rfl, rfl⟩, fun h => ⟨h, rfl⟩, fun h9 => ⟨.inr (Int.le_refl _), rfl, fun h0 => by have h8 : 0 < x.fr := h9; omega⟩, [], by simp, by simp⟩⟩, hr⟩
end
end Go.Proofs.Ytlggkeoihpcdiaa

/- What a node answers to a question ahead of a vote, and to an Append; and to any message. -/
namespace Go.Proofs.Ytlggkeoihpcdiaa
open Go.RowKit

def preOk (x : NodeM) (m : MsgM) : Bool := (((!decide (x.role = 3)) && (decide (x.leader = -1) || decide (x.el ≤ x.since))) && decide (x.term < m.term)) && youngF x.log m.i m.lt
def askPreF (x : NodeM) (m : MsgM) : NodeM := tellF x ⟨2, 0, m.f, if preOk x m then m.term else x.term, 0, 0, 0, preOk x m, []⟩
/-- it follows, and has heard of the leader -/
def ledF (x : NodeM) (l : Int) : NodeM := { x with role := 0, leader := l, since := 0 }
def appendF (x : NodeM) (m : MsgM) : NodeM :=
  if m.i < x.commit then answerF (ledF x m.f) m.f true x.commit
  else if (putF x.log m.i m.lt m.es).2.2 ≠ 0 then answerF (ledF x m.f) m.f false (max (min (x.log.length : Int) (m.i - 1)) 0)
  else answerF { unsavedF { ledF x m.f with log := (putF x.log m.i m.lt m.es).1 } (putF x.log m.i m.lt m.es).2.1 with commit := max x.commit (min m.c (m.i + m.es.length)) } m.f true (m.i + m.es.length)
def ofTerm5F (x : NodeM) (m : MsgM) : NodeM :=
  if m.term < (firstF x m.term).term then answerF (firstF x m.term) m.f false 0
  else if (firstF x m.term).role = 3 then firstF x m.term else appendF (firstF x m.term) m
def step1F (x : NodeM) (m : MsgM) : NodeM := if countsF x m then askPreF x m else x
def step5F (x : NodeM) (m : MsgM) : NodeM := if countsF x m then ofTerm5F x m else x
def stepF (x : NodeM) (m : MsgM) : NodeM :=
  if m.k = 1 then step1F x m else if m.k = 2 then step2F x m else if m.k = 3 then step3F x m else if m.k = 4 then step4F x m else if m.k = 5 then step5F x m else if m.k = 6 then step6F x m else x
end Go.Proofs.Ytlggkeoihpcdiaa

/- Plain facts of a node to which anything may come: each call. -/
namespace Go.Proofs.Ytlggkeoihpcdiaa
open Go.RowKit

section
variable {B : Int} {x y z : NodeM}
theorem good_add (h : RawInv B x) (hr : x.role = 3) (s : ByteArray) (hs : s.size ≤ 512) : Good B x (addN x s).1 ∧ (addN x s).1.role = 3 ∧ ((addN x s).2 = 0 ∨ (addN x s).2 = 5 ∨ (addN x s).2 = 7) := by
  unfold addN
  by_cases h1 : x.term < lastT x.log
  · have e : addF x.log ⟨x.term, s⟩ = (x.log, 5) := by unfold addF; rw [if_pos h1]
    rw [e, if_pos (by simp)]
    exact ⟨Good.refl h, hr, .inr (.inl rfl)⟩
  · by_cases h2 : 1024 ≤ x.log.length
    · have e : addF x.log ⟨x.term, s⟩ = (x.log, 7) := by unfold addF; rw [if_neg h1, if_pos h2]
      rw [e, if_pos (by simp)]
      exact ⟨Good.refl h, hr, .inr (.inr rfl)⟩
    · obtain ⟨es, hes⟩ : ∃ es, es = x.log ++ [(⟨x.term, s⟩ : Ent)] := ⟨_, rfl⟩
      have e : addF x.log ⟨x.term, s⟩ = (es, 0) := by unfold addF; rw [if_neg h1, if_neg h2, hes]
      have hel : es.length = x.log.length + 1 := by rw [hes]; simp
      have hf1 := h.f1
      have hf0 := h.f0
      have hc1 := h.c1
      have hq : unsavedF { x with log := es } (es.length : Int) = { x with log := es, fr := if x.fr = 0 then (es.length : Int) else x.fr } := by
        unfold unsavedF
        by_cases h0 : x.fr = 0
        · rw [if_pos ⟨by omega, .inl h0⟩, if_pos h0]
        · rw [if_neg (by rintro ⟨_, h9 | h9⟩; exact h0 h9; simp only at h9; omega), if_neg h0]
      generalize hqv : (if x.fr = 0 then (es.length : Int) else x.fr) = q at hq
      have hqb : 0 < q ∧ q ≤ es.length ∧ (x.fr = 0 ∨ q ≤ x.fr) ∧ q - 1 ≤ x.log.length := by
        split at hqv <;> omega
      have htk : ∀ k : Nat, k ≤ x.log.length → es.take k = x.log.take k := fun k hk => by rw [hes, List.take_append_of_le_length hk]
      have hu : Good B x { x with log := es, fr := q } := by
        refine ⟨⟨h.n0, h.n7, h.id0, h.id1, h.el0, h.el1, h.be0, h.t0, h.t1, h.v0, h.v1, ?_, by simp only; omega, h.c0, by simp only; omega, by simp only; omega, by simp only; omega, h.yes, h.heard, h.s0, h.s1, h.r1, h.r23, fun h9 => ⟨(h.lead h9).1, fun p hp => ?_⟩⟩, ⟨rfl, rfl, rfl, rfl, Int.le_refl _, fun _ => .inl rfl, Int.le_refl _, htk _ (by omega), fun h => ⟨h, rfl, rfl⟩, fun h9 => absurd (show q = 0 from h9) (by omega), fun _ => ⟨hqb.2.2.1, htk _ (by simp only; omega), fun _ => hqb.2.2.2⟩, [], by simp, by simp⟩⟩
        · simp only
          rw [hes]
          exact okl_add h.ok _ ⟨h.r23 (.inr hr), Int.le_refl _, hs⟩ (by simp only; omega)
        · have := (h.lead h9).2 p hp
          simp only
          omega
      rw [e, if_neg (by simp)]
      simp only
      rw [hq]
      obtain ⟨g, gr⟩ := good_commit hu.1 hr
      exact ⟨hu.trans g, gr, by simp⟩

theorem pow_id (h : RawInv B x) : 2 ^ x.id.toNat < 128 := Nat.pow_lt_pow_right (by omega) (show x.id.toNat < 7 by have := h.id1; have := h.n7; omega)
theorem good_lead (h : RawInv B x) (hr : x.role = 2) (hB : 0 ≤ B) : Good B x (leadF x) := by
  have g0 := good_side h 3 x.id 0 x.yes (2 ^ x.id.toNat) (List.replicate x.n.toNat ⟨0, x.log.length + 1⟩) (Int.le_refl _) hB h.yes (pow_id h) (fun h9 => absurd h9 (by decide)) (fun _ => h.r23 (.inl hr)) (fun _ => ⟨by rw [List.length_replicate]; have := h.n0; omega, fun p hp => by
    rw [List.eq_of_mem_replicate hp]
    simp only
    omega⟩)
  have g1 := good_add g0.1 rfl ⟨#[]⟩ (by decide)
  unfold leadF
  simp only
  split
  · exact (g0.trans g1.1).trans (good_follow g1.1.1 _ (-1) g1.1.1.t1)
  · exact (g0.trans g1.1).trans ((sendAll_tells _).good g1.1.1)
theorem good_heard (h : RawInv B x) (f : Nat) (hf : f < 7) : Good B x (heardF x f) :=
  good_side h x.role x.leader x.since (x.yes ||| 2 ^ f) x.heard x.peers h.s0 h.s1 (hear_bits x.yes f h.yes hf).2 h.heard h.r1 h.r23 h.lead
theorem good_hear2 (h : RawInv B x) (hr : x.role = 2) (f : Nat) (hf : f < 7) (hB : 0 ≤ B) : Good B x (hear2F x f) := by
  have g := good_heard h f hf
  unfold hear2F
  split
  · exact g.trans (good_lead g.1 hr hB)
  · exact g
theorem good_stand (h : RawInv B x) (ht : x.term < 1099511627776) (hB : 0 ≤ B) : Good B x (standF x) := by
  have g0 : Good B x { x with term := x.term + 1, vote := x.id, fresh := true, role := 2, since := 0, yes := 0 } :=
    ⟨⟨h.n0, h.n7, h.id0, h.id1, h.el0, h.el1, h.be0, by have := h.t0; simp only; omega, by simp only; omega, by have := h.id0; simp only; omega, by have := h.id1; have := h.n7; simp only; omega, h.ok.mono (by simp only; omega), h.len, h.c0, h.c1, h.f0, h.f1, by simp, h.heard, by simp, hB, fun h9 => absurd h9 (by simp), fun _ => by have := h.t0; simp only; omega, fun h9 => absurd h9 (by simp)⟩, ⟨rfl, rfl, rfl, rfl, by simp only; omega, fun e => absurd (show x.term + 1 = x.term from e) (by omega), Int.le_refl _, rfl, (fun h => by cases h), fun h => ⟨h, rfl⟩, fun h9 => ⟨.inr (Int.le_refl _), rfl, fun h0 => by have h8 : 0 < x.fr := h9; omega⟩, [], by simp, by simp⟩⟩
  have t := askAll_tells { x with term := x.term + 1, vote := x.id, fresh := true, role := 2, since := 0, yes := 0 } 3 (x.term + 1) (by simp only; omega)
  have g1 := t.good g0.1
  exact (g0.trans g1).trans (good_hear2 g1.1 (t.role.trans rfl) x.id.toNat (by have := h.id1; have := h.n7; omega) hB)
theorem good_hear1 (h : RawInv B x) (hr : x.role = 1) (f : Nat) (hf : f < 7) (hB : 0 ≤ B) : Good B x (hear1F x f) := by
  have g := good_heard h f hf
  unfold hear1F
  split
  · exact g.trans (good_stand g.1 (h.r1 hr) hB)
  · exact g
theorem good_ask (h : RawInv B x) (ht : x.term < 1099511627776) (hB : 0 ≤ B) : Good B x (askF x) := by
  have g0 := good_side h 1 (-1) 0 0 x.heard x.peers (Int.le_refl _) hB (by decide) h.heard (fun _ => ht) (fun h9 => absurd h9 (by decide)) (fun h9 => absurd h9 (by decide))
  have t := askAll_tells { x with role := 1, leader := -1, since := 0, yes := 0, heard := x.heard, peers := x.peers } 1 (x.term + 1) (by simp only; omega)
  have g1 := t.good g0.1
  exact (g0.trans g1).trans (good_hear1 g1.1 (t.role.trans rfl) x.id.toNat (by have := h.id1; have := h.n7; omega) hB)

theorem good_note (h : RawInv B x) (v : Nat) (hv : v < 128) : Good B x { x with heard := v } :=
  good_side h x.role x.leader x.since x.yes v x.peers h.s0 h.s1 h.yes hv h.r1 h.r23 h.lead
theorem good_tickR (h : RawInv B x) : Good B x (tickRF x) := by
  unfold tickRF
  split
  · exact Good.refl h
  · split
    · exact good_note h _ (pow_id h)
    · have g := good_follow h x.term (-1) h.t1
      exact g.trans (good_note g.1 _ (pow_id h))
theorem good_tick (h : RawInv B x) (hB : 0 ≤ B) (dr : Int) : Good (B + 1) x (tickF x dr) := by
  have g0 := good_side (B' := B + 1) h x.role x.leader (x.since + 1) x.yes x.heard x.peers (by have := h.s0; omega) (by have := h.s1; omega) h.yes h.heard h.r1 h.r23 h.lead
  unfold tickF
  simp only
  split
  · rw [tickLF_eq]
    have t : Tells { x with since := x.since + 1 } (beatF { x with since := x.since + 1 }) := by
      unfold beatF
      split
      · exact sendAll_tells _
      · exact Tells.refl _
    have g1 := t.good (B := B + 1) g0.1
    exact (g0.trans g1).trans (good_tickR g1.1)
  · split
    · rename_i h9
      exact g0.trans (good_ask g0.1 h9.1 (by omega))
    · exact g0
theorem Tells.log (t : Tells x y) : y.log = x.log := by
  obtain ⟨o, rfl, g⟩ := t
  rfl
theorem good_propose (h : RawInv B x) (s : ByteArray) : Good B x (proposeF x s).1 ∧ (x.role ≠ 3 → (proposeF x s).2 = (0, 13)) ∧ (x.role = 3 → 512 < s.size → (proposeF x s).2 = (0, 4)) ∧ (x.role = 3 → s.size ≤ 512 → ((proposeF x s).2.2 = 0 ∧ (proposeF x s).2.1 = (proposeF x s).1.log.length) ∨ (proposeF x s).2.2 = 5 ∨ (proposeF x s).2.2 = 7) := by
  unfold proposeF
  by_cases h1 : x.role ≠ 3
  · rw [if_pos h1]
    exact ⟨Good.refl h, fun _ => rfl, fun h9 => absurd h9 h1, fun h9 => absurd h9 h1⟩
  · rw [if_neg h1]
    have hr : x.role = 3 := by omega
    by_cases h2 : 512 < s.size
    · rw [if_pos h2]
      exact ⟨Good.refl h, fun h9 => absurd hr h9, fun _ _ => rfl, fun _ h9 => absurd h2 (by omega)⟩
    · rw [if_neg h2]
      obtain ⟨g, gr, gc⟩ := good_add h hr s (by omega)
      by_cases h3 : (addN x s).2 ≠ 0
      · rw [if_pos h3]
        refine ⟨g, fun h9 => absurd hr h9, fun _ h9 => absurd h9 h2, fun _ _ => .inr ?_⟩
        rcases gc with gc | gc | gc
        · exact absurd gc h3
        · exact .inl gc
        · exact .inr gc
      · rw [if_neg h3]
        have t := sendAll_tells (addN x s).1
        exact ⟨g.trans (t.good g.1), fun h9 => absurd hr h9, fun _ h9 => absurd h9 h2, fun _ _ => .inl ⟨rfl, by simp only; rw [t.log]⟩⟩

theorem good_first (h : RawInv B x) (t : Int) (ht : t ≤ 1099511627776) : Good B x (firstF x t) := by
  unfold firstF
  split
  · exact good_follow h t (-1) ht
  · exact Good.refl h
theorem good_tellPre (h : RawInv B x) (m : MsgM) (hm : m.term ≤ 1099511627776) (hf : m.f.toNat < 7) (hB : 0 ≤ B) : Good B x (tellPreF x m) := by
  have g : Good B x (preF x m) := by
    unfold preF
    split
    · exact good_follow h m.term (-1) hm
    · exact Good.refl h
  unfold tellPreF
  split
  · rename_i h9
    exact g.trans (good_hear1 g.1 h9.2.2 _ hf hB)
  · exact g
theorem good_voted (h : RawInv B x) (m : MsgM) (h0 : 0 ≤ m.f) (h6 : m.f ≤ 6) (hB : 0 ≤ B) : Good B x (votedF x m) := by
  unfold votedF
  split
  · rename_i hv
    have hfree : x.vote = -1 ∨ x.vote = m.f := by
      unfold voteOk at hv
      rw [Bool.and_eq_true, Bool.and_eq_true, Bool.or_eq_true, decide_eq_true_iff, decide_eq_true_iff] at hv
      exact hv.1.1
    refine ⟨⟨h.n0, h.n7, h.id0, h.id1, h.el0, h.el1, h.be0, h.t0, h.t1, by simp only; omega, h6, h.ok, h.len, h.c0, h.c1, h.f0, h.f1, h.yes, h.heard, by simp, hB, h.r1, h.r23, h.lead⟩, ⟨rfl, rfl, rfl, rfl, Int.le_refl _, fun _ => ?_, Int.le_refl _, rfl, fun h9 => ?_, fun h => ⟨h, rfl⟩, fun h9 => ⟨.inr (Int.le_refl _), rfl, fun h0 => by have h8 : 0 < x.fr := h9; omega⟩, [], by simp, by simp⟩⟩
    · rcases hfree with h9 | h9
      · exact .inr h9
      · exact .inl h9.symm
    · have h8 : (x.fresh || !decide (x.vote = m.f)) = false := h9
      rw [Bool.or_eq_false_iff, Bool.not_eq_false', decide_eq_true_iff] at h8
      exact ⟨h8.1, rfl, h8.2.symm⟩
  · exact Good.refl h
theorem good_answer (h : RawInv B x) (t : Int) (yes : Bool) (i : Int) (ne : t ≠ x.id) (h0 : 0 ≤ t) (h1 : t < x.n) : Good B x (answerF x t yes i) :=
  (tells_one x ⟨6, 0, t, x.term, i, 0, 0, yes, []⟩ ne h0 h1 (.inl (by simp only; omega)) (by simp)).good h
theorem good_askVote (h : RawInv B x) (m : MsgM) (ne : m.f ≠ x.id) (h0 : 0 ≤ m.f) (h1 : m.f < x.n) (hB : 0 ≤ B) : Good B x (askVoteF x m) := by
  have g := good_voted h m h0 (by have := h.n7; omega) hB
  unfold askVoteF
  exact g.trans ((tells_one (votedF x m) ⟨4, 0, m.f, (votedF x m).term, 0, 0, 0, voteOk x m, []⟩ (by rw [g.2.id]; exact ne) h0 (by rw [g.2.n]; exact h1) (.inl (by simp only; omega)) (by simp)).good g.1)
theorem good_askPre (h : RawInv B x) (m : MsgM) (ne : m.f ≠ x.id) (h0 : 0 ≤ m.f) (h1 : m.f < x.n) : Good B x (askPreF x m) :=
  (tells_one x _ ne h0 h1 (.inr rfl) (by simp)).good h
theorem good_append (h : RawInv B x) (m : MsgM) (ne : m.f ≠ x.id) (h0 : 0 ≤ m.f) (h1 : m.f < x.n) (hB : 0 ≤ B) (hes : ∀ e ∈ m.es, 1 ≤ e.t ∧ e.t ≤ x.term ∧ e.s.size ≤ 512) : Good B x (appendF x m) := by
  have g0 : Good B x (ledF x m.f) := good_side h 0 m.f 0 x.yes x.heard x.peers (Int.le_refl _) hB h.yes h.heard (fun h9 => absurd h9 (by decide)) (fun h9 => absurd h9 (by decide)) (fun h9 => absurd h9 (by decide))
  unfold appendF
  split
  · exact g0.trans (good_answer g0.1 _ _ _ ne h0 h1)
  · rename_i hc
    split
    · exact g0.trans (good_answer g0.1 _ _ _ ne h0 h1)
    · rename_i hp
      have P := put_ok (T := x.term) (es := x.log) (i := m.i) (t := m.lt) (l := m.es) (by omega) h.ok hes h.len
      generalize (putF x.log m.i m.lt m.es).1 = es at P ⊢
      generalize (putF x.log m.i m.lt m.es).2.1 = a at P ⊢
      have hc0 := h.c0
      have hc1 := h.c1
      have hf0 := h.f0
      have hf1 := h.f1
      have hi0 := P.i0
      have hi1 := P.i1
      have hup := P.up
      obtain ⟨q, hq, hq0, hqn, hqp⟩ : ∃ q, unsavedF { ledF x m.f with log := es } a = { ledF x m.f with log := es, fr := q } ∧ 0 ≤ q ∧ (q = 0 → x.fr = 0 ∧ es = x.log) ∧ (0 < q → q ≤ es.length ∧ (x.fr = 0 ∨ q ≤ x.fr) ∧ es.take (q - 1).toNat = x.log.take (q - 1).toNat ∧ (x.fr = 0 → q - 1 ≤ x.log.length)) := by
        rcases P.at_ with ⟨rfl, rfl⟩ | ⟨a1, a2, a3, a4⟩
        · refine ⟨x.fr, ?_, hf0, fun e => ⟨e, rfl⟩, fun h9 => ⟨hf1, .inr (Int.le_refl _), rfl, fun h8 => by omega⟩⟩
          unfold unsavedF
          rw [if_neg (by rintro ⟨h9, _⟩; omega)]
          rfl
        · by_cases h9 : x.fr = 0 ∨ a < x.fr
          · refine ⟨a, ?_, by omega, fun e => by omega, fun _ => ⟨a2, by omega, a3, fun _ => a4⟩⟩
            unfold unsavedF
            rw [if_pos ⟨a1, h9⟩]
          · refine ⟨x.fr, ?_, hf0, fun e => absurd (Or.inl e) h9, fun _ => ⟨by omega, .inr (Int.le_refl _), ?_, fun h8 => absurd (Or.inl h8) h9⟩⟩
            · unfold unsavedF
              rw [if_neg (fun h8 => h9 h8.2)]
              rfl
            · exact take_less a3 (by omega)
      rw [hq]
      have hm : x.commit ≤ max x.commit (min m.c (m.i + m.es.length)) ∧ max x.commit (min m.c (m.i + m.es.length)) ≤ es.length := by omega
      generalize max x.commit (min m.c (m.i + m.es.length)) = cm at hm ⊢
      have g1 : Good B x { ledF x m.f with log := es, fr := q, commit := cm } := by
        refine ⟨⟨h.n0, h.n7, h.id0, h.id1, h.el0, h.el1, h.be0, h.t0, h.t1, h.v0, h.v1, P.ok, P.len, by simp only; omega, hm.2, hq0, ?_, h.yes, h.heard, by simp [ledF], hB, fun h9 => absurd h9 (by simp [ledF]), fun h9 => absurd h9 (by simp [ledF]), fun h9 => absurd h9 (by simp [ledF])⟩, ⟨rfl, rfl, rfl, rfl, Int.le_refl _, fun _ => .inl rfl, hm.1, ?_, fun h => ⟨h, rfl, rfl⟩, hqn, fun h9 => (hqp h9).2, [], by simp [ledF], by simp⟩⟩
        · rcases Int.lt_or_le 0 q with h9 | h9
          · exact (hqp h9).1
          · simp only
            omega
        · exact take_less P.keep (by omega)
      exact g1.trans (good_answer g1.1 _ _ _ ne h0 h1)
theorem good_send (h : RawInv B x) (f : Nat) (ne : (f : Int) ≠ x.id) (hf : (f : Int) < x.n) : Good B x (sendF x f) := (send_tells x f ne hf).good h
theorem good_peers (h : RawInv B x) (ps : List PeerM) (hp : x.role = 3 → (ps.length : Int) = x.n ∧ ∀ p ∈ ps, (0 ≤ p.has ∧ p.has ≤ x.log.length) ∧ 1 ≤ p.next ∧ p.next ≤ x.log.length + 1) : Good B x { x with peers := ps } :=
  good_side h x.role x.leader x.since x.yes x.heard ps h.s0 h.s1 h.yes h.heard h.r1 h.r23 hp
theorem peer_in (h : RawInv B x) (hr : x.role = 3) (f : Nat) (hf : (f : Int) < x.n) : (0 ≤ (x.peers.getD f ⟨0, 0⟩).has ∧ (x.peers.getD f ⟨0, 0⟩).has ≤ x.log.length) ∧ 1 ≤ (x.peers.getD f ⟨0, 0⟩).next ∧ (x.peers.getD f ⟨0, 0⟩).next ≤ x.log.length + 1 := by
  obtain ⟨hl, hp⟩ := h.lead hr
  have hfl : f < x.peers.length := by omega
  rw [List.getD_eq_getElem?_getD, List.getElem?_eq_getElem hfl]
  exact hp _ (List.getElem_mem hfl)
theorem good_lacks (h : RawInv B x) (hr : x.role = 3) (f : Nat) (ne : (f : Int) ≠ x.id) (hf : (f : Int) < x.n) (i : Int) : Good B x (takeLacksF x f i) := by
  obtain ⟨hl, hp⟩ := h.lead hr
  have hq := peer_in h hr f hf
  have g : Good B x (lackedF x f i) := by
    refine good_peers h _ (fun _ => ⟨by rw [List.length_set]; exact hl, fun p hpm => ?_⟩)
    rcases List.mem_or_eq_of_mem_set hpm with h9 | h9
    · exact hp p h9
    · rw [h9]
      unfold lackNext
      simp only
      omega
  exact g.trans (good_send g.1 f (by rw [g.2.id]; exact ne) (by rw [g.2.n]; exact hf))
theorem good_hasAll (h : RawInv B x) (hr : x.role = 3) : Good B x (hasAllF x) := by
  obtain ⟨g, gr⟩ := good_commit h hr
  unfold hasAllF
  split
  · exact g.trans ((sendAll_tells _).good g.1)
  · exact g
theorem good_has (h : RawInv B x) (hr : x.role = 3) (f : Nat) (ne : (f : Int) ≠ x.id) (hf : (f : Int) < x.n) (i : Int) (hi0 : 0 ≤ i) (hi : i ≤ x.log.length) : Good B x (takeHasF x f i) := by
  obtain ⟨hl, hp⟩ := h.lead hr
  have hq := peer_in h hr f hf
  have g : Good B x (hasF x f i) := by
    refine good_peers h _ (fun _ => ⟨by rw [List.length_set]; exact hl, fun p hpm => ?_⟩)
    rcases List.mem_or_eq_of_mem_set hpm with h9 | h9
    · exact hp p h9
    · rw [h9]
      simp only
      omega
  have g2 := g.trans (good_hasAll g.1 hr)
  unfold takeHasF
  split
  · exact g2.trans (good_send g2.1 f (by rw [g2.2.id]; exact ne) (by rw [g2.2.n]; exact hf))
  · exact g2
theorem good_told (h : RawInv B x) (hr : x.role = 3) (m : MsgM) (f : Nat) (ne : (f : Int) ≠ x.id) (hf : (f : Int) < x.n) : Good B x (takeToldF x m f) := by
  have g : Good B x (toldHeardF x f) := good_note h _ (hear_bits x.heard f h.heard (by have := h.n7; omega)).2
  unfold takeToldF
  split
  · exact g.trans (good_lacks g.1 hr f (by rw [g.2.id]; exact ne) (by rw [g.2.n]; exact hf) m.i)
  · split
    · rename_i h9
      have hb := termF_true h9
      exact g.trans (good_has g.1 hr f (by rw [g.2.id]; exact ne) (by rw [g.2.n]; exact hf) m.i hb.1 hb.2)
    · exact g
/-- whatever comes -/
theorem good_step (h : RawInv B x) (m : MsgM) (hB : 0 ≤ B) : Good B x (stepF x m) := by
  have hc : ∀ y, (countsF x m = true → Good B x y) → Good B x (if countsF x m then y else x) := by
    intro y hy
    split
    · rename_i h9
      exact hy h9
    · exact Good.refl h
  have hn7 := h.n7
  unfold stepF
  split
  · refine hc _ (fun h9 => ?_)
    obtain ⟨q1, q2, q3, q4, q5, q6, q7⟩ := counts_true h9
    exact good_askPre h m q1 q2 (by omega)
  split
  · refine hc _ (fun h9 => ?_)
    obtain ⟨q1, q2, q3, q4, q5, q6, q7⟩ := counts_true h9
    exact good_tellPre h m q5 (by omega) hB
  split
  · refine hc _ (fun h9 => ?_)
    obtain ⟨q1, q2, q3, q4, q5, q6, q7⟩ := counts_true h9
    have g := good_first h m.term q5
    unfold ofTerm3F
    split
    · exact g
    · exact g.trans (good_askVote g.1 m (by rw [g.2.id]; exact q1) q2 (by rw [g.2.n]; omega) hB)
  split
  · refine hc _ (fun h9 => ?_)
    obtain ⟨q1, q2, q3, q4, q5, q6, q7⟩ := counts_true h9
    have g := good_first h m.term q5
    unfold ofTerm4F
    split
    · exact g
    · split
      · rename_i h8
        exact g.trans (good_hear2 g.1 h8.2 _ (by omega) hB)
      · exact g
  split
  · refine hc _ (fun h9 => ?_)
    obtain ⟨q1, q2, q3, q4, q5, q6, q7⟩ := counts_true h9
    have g := good_first h m.term q5
    have hmt : m.term ≤ (firstF x m.term).term := by
      unfold firstF followF
      split
      · exact Int.le_refl _
      · omega
    unfold ofTerm5F
    split
    · exact g.trans (good_answer g.1 _ _ _ (by rw [g.2.id]; exact q1) q2 (by rw [g.2.n]; omega))
    · split
      · exact g
      · exact g.trans (good_append g.1 m (by rw [g.2.id]; exact q1) q2 (by rw [g.2.n]; omega) hB (fun e he => by have := q7 e he; omega))
  split
  · refine hc _ (fun h9 => ?_)
    obtain ⟨q1, q2, q3, q4, q5, q6, q7⟩ := counts_true h9
    have g := good_first h m.term q5
    unfold ofTerm6F
    split
    · exact g
    · split
      · rename_i h8
        exact g.trans (good_told g.1 h8 m _ (by rw [g.2.id]; omega) (by rw [g.2.n]; omega))
      · exact g
  · exact Good.refl h
end
end Go.Proofs.Ytlggkeoihpcdiaa
