/- The walks of package raft's answer and takeTellPre. -/
import Derived.Test.YtlggkeoihpcdiaaJ9
import Derived.Test.YtlggkeoihpcdiaaJ12
namespace Go.Proofs.Ytlggkeoihpcdiaa
open Go.RowKit

def answerF (x : NodeM) (t : Int) (yes : Bool) (i : Int) : NodeM := tellF x ⟨6, 0, t, x.term, i, 0, 0, yes, []⟩
set_option maxRecDepth 100000 in
set_option maxHeartbeats 800000 in
/-- (*raft.Node).answer -/
theorem answer_any (base g : Nat) (x : NodeM) (t : Int) (yes : Bool) (i : Int) (S : Nat → Prop) (w : World) (h : NodeAt w base g x S) (hB : base ≤ w.heap.size) (ho : x.out.length ≤ 1048576) :
    Calls Try.prog 84 #[.pointer (some ⟨g, 0, none⟩), .int .i64 t, .bool yes, .int .i64 i] w fun e w' => e = .returned (.tuple #[]) ∧ NMoves w base g S (answerF x t yes i) w' := by
  obtain ⟨L, hL, _⟩ := h.cell
  obtain ⟨_, ⟨c4, _, _, _⟩, _, _⟩ := hL.cells
  have HTE := Lib.hid (tell_any base g x ⟨6, 0, t, x.term, i, 0, 0, yes, []⟩ none 0 0 S w h rfl (FreeN.nil _ _ _ _) (fun k hk => by simp [foot] at hk) hB ho)
  clear hL h hB ho
  go_enter Try.func84, Try.ntmps84
  go_wp2_with fail
  refine HTE.out.mono ?_
  rintro e w1 ⟨rfl, hm⟩
  have HM := Lib.hid hm
  clear hm
  go_wp2_with fail
  go_end0
  exact ⟨rfl, HM.out⟩

theorem bool_two (b : Bool) : b = false ∨ b = true := by cases b; exact .inl rfl; exact .inr rfl
def preF (x : NodeM) (m : MsgM) : NodeM := if m.yes = false ∧ x.term < m.term then followF x m.term (-1) else x
def tellPreF (x : NodeM) (m : MsgM) : NodeM := if m.yes = true ∧ m.term = (preF x m).term + 1 ∧ (preF x m).role = 1 then hear1F (preF x m) m.f.toNat else preF x m
theorem preF_same (x : NodeM) (m : MsgM) : (preF x m).id = x.id ∧ (preF x m).n = x.n ∧ (preF x m).log = x.log ∧ (preF x m).out = x.out ∧ (preF x m).yes = x.yes ∧ ((preF x m).term = x.term ∨ (preF x m).term = m.term) := by
  unfold preF
  split
  · obtain ⟨a, b, c, d, _⟩ := followF_same x m.term (-1)
    refine ⟨a, b, c, d, ?_, ?_⟩
    · unfold followF; split <;> rfl
    · unfold followF; split <;> simp
  · exact ⟨rfl, rfl, rfl, rfl, rfl, .inl rfl⟩

set_option maxRecDepth 100000 in
set_option maxHeartbeats 1600000 in
/-- (*raft.Node).takeTellPre -/
theorem takeTellPre_any (base g : Nat) (x : NodeM) (m : MsgM) (A : Option Addr) (n c : Nat) (S : Nat → Prop) (w : World) (h : NodeAt w base g x S) (hf0 : 0 ≤ m.f) (hf : m.f < x.n) (hy : x.yes < 128) (hn0 : 0 < x.n) (hn7 : x.n ≤ 7) (hid0 : 0 ≤ x.id) (hid : x.id < x.n) (hl : x.log.length ≤ 1048000) (hB : base ≤ w.heap.size) (ho : x.out.length ≤ 999990) (ht0 : 0 ≤ x.term) (ht : x.term ≤ 1099511627776) (hm0 : 0 ≤ m.term) (hm1 : m.term ≤ 1099511627776) :
    Calls Try.prog 58 #[.pointer (some ⟨g, 0, none⟩), .agg #[.int .i64 m.k, .int .i64 m.f, .int .i64 m.t, .int .i64 m.term, .int .i64 m.i, .int .i64 m.lt, .int .i64 m.c, .bool m.yes, .slice A n c]] w fun e w' => e = .returned (.tuple #[]) ∧ NMoves w base g S (tellPreF x m) w' := by
  obtain ⟨L, hL, hS⟩ := h.cell
  have hM := Blk.new w 61 #[.int .i64 m.k, .int .i64 m.f, .int .i64 m.t, .int .i64 m.term, .int .i64 m.i, .int .i64 m.lt, .int .i64 m.c, .bool m.yes, .slice A n c]
  have hb0 := (Below.refl w.heap.size w).alloc (Nat.le_refl _) (.cells #[.int .i64 m.k, .int .i64 m.f, .int .i64 m.t, .int .i64 m.term, .int .i64 m.i, .int .i64 m.lt, .int .i64 m.c, .bool m.yes, .slice A n c] 61)
  have HL := Lib.hid (hL.on hb0)
  have HA := Lib.hid (h.on hb0)
  have HM := Lib.hid hM
  have HB0 := Lib.hid hb0
  have HNS := Lib.hid (show ∀ k, S k → k < w.heap.size from fun k hk => h.has_lt _ hk)
  have HSA := Lib.hid (preF_same x m)
  obtain ⟨ff, hff⟩ : ∃ ff : Nat, m.f = ff := ⟨m.f.toNat, by omega⟩
  have hff2 : m.f.toNat = ff := by omega
  have HX := Lib.hid (And.intro hn0 (And.intro hn7 (And.intro hid0 (And.intro hid (And.intro hl (And.intro ho (And.intro hy (And.intro (show (ff : Int) < x.n by omega) (show base ≤ _ from Nat.le_trans hB hb0.size)))))))))
  have HTT := Lib.hid (show 0 ≤ (preF x m).term ∧ (preF x m).term ≤ 1099511627776 by obtain ⟨_, _, _, _, _, h9 | h9⟩ := preF_same x m <;> rw [h9] <;> omega)
  have HF := Lib.hid (show tellPreF x m = if m.yes = true ∧ m.term = (preF x m).term + 1 ∧ (preF x m).role = 1 then hear1F (preF x m) ff else preF x m by unfold tellPreF; rw [hff2])
  have HP := Lib.hid (show preF x m = if m.yes = false ∧ x.term < m.term then followF x m.term (-1) else x from rfl)
  have HFF := Lib.hid hff
  generalize preF x m = y at *
  generalize tellPreF x m = z at *
  clear hL h hM hb0 hS hl ho hB hf0 hf hy hn0 hn7 hid0 hid ht0 ht hm0 hm1 hff hff2
  go_enter Try.func58, Try.ntmps58
  go_upto_region 1 with (fail)
  generalize w.alloc (.cells #[.int .i64 m.k, .int .i64 m.f, .int .i64 m.t, .int .i64 m.term, .int .i64 m.i, .int .i64 m.lt, .int .i64 m.c, .bool m.yes, .slice A n c] 61) = w0 at *
  obtain ⟨⟨e0, e1, e2, e3⟩, ⟨e4, e5, e6⟩, ⟨e7, e8⟩⟩ := msg_cells HM.out
  obtain ⟨_, ⟨c4, c5, c6, c7⟩, _, _⟩ := HL.out.cells
  go_cut [15] (fun v wx => v = .bool (!m.yes && decide (x.term < m.term)) ∧ Below w0.heap.size w0 wx)
  case first =>
    rcases bool_two m.yes with hye | hye
    · rw [hye] at e7
      have HYE := Lib.hid hye
      clear hye
      go_big_quiet (fail)
      go_wp2_with fail
      go_meet
      refine ⟨?_, below_drewN (Below.refl _ _) nq⟩
      rw [HYE.out]
      rfl
    · rw [hye] at e7
      have HYE := Lib.hid hye
      clear hye
      go_big_quiet (fail)
      go_wp2_with fail
      go_meet
      refine ⟨?_, below_drewN (Below.refl _ _) nq⟩
      rw [HYE.out]
      rfl
  case rest =>
    obtain ⟨rfl, hbc⟩ := hcut
    have HM1 := Lib.hid (HM.out.below hbc HM.out.lt)
    have HA1 := Lib.hid (HA.out.on hbc)
    have HB1 := Lib.hid (bthen HB0.out hbc)
    have HZ0 := Lib.hid hbc.size
    clear hbc HL HM HB0 HA e0 e1 e2 e3 e4 e5 e6 e7 e8 c4 c5 c6 c7
    obtain ⟨⟨e0, e1, e2, e3⟩, ⟨e4, e5, e6⟩, ⟨e7, e8⟩⟩ := msg_cells HM1.out
    go_upto_if 15 with (fail)
    go_cut [] (fun wx => NMoves wc base g S y wx)
    case first =>
      obtain ⟨b, hb⟩ : ∃ b, (!m.yes && decide (x.term < m.term)) = b := ⟨_, rfl⟩
      rw [hb]
      cases b
      · have HY := Lib.hid (show y = x by
          rw [HP.out, if_neg]
          rintro ⟨h1, h2⟩
          rw [h1, decide_eq_true h2] at hb
          cases hb)
        clear hb
        go_wp2_with fail
        go_meet
        rw [HY.out]
        exact NMoves.same HA1.out
      · have HY := Lib.hid (show y = followF x m.term (-1) by
          rw [Bool.and_eq_true, decide_eq_true_iff, Bool.not_eq_true'] at hb
          rw [HP.out, if_pos hb])
        have HFO := Lib.hid (follow_any base g x m.term (-1) S wc HA1.out)
        clear hb
        go_wp2_with fail
        refine HFO.out.mono ?_
        rintro e w3 ⟨rfl, hm⟩
        go_wp2_with fail
        go_meet
        rw [HY.out]
        exact hm
    case rest =>
      obtain ⟨S1, hna, htu, hsu⟩ := hcut
      have hM2 := htu.blk HM1.out (fun hk => by have := HNS.out _ hk; omega)
      have HM2 := Lib.hid hM2
      have HT2 := Lib.hid (show Turn S w wc from (Turn.of_below HB1.out).trans htu (fun _ hk => .inl hk))
      have HS2 := Lib.hid (show ∀ k, S1 k → S k ∨ (w.heap.size ≤ k ∧ k < wc.heap.size) from fun k hk => (hsu k hk).imp id (fun h => ⟨Nat.le_trans HB1.out.size h.1, h.2⟩))
      have HA2 := Lib.hid hna
      have HX2 := Lib.hid (show base ≤ wc.heap.size from Nat.le_trans (Nat.le_trans HX.out.2.2.2.2.2.2.2.2 (show w0.heap.size ≤ _ from HZ0.out)) htu.size)
      clear hna htu hsu HM1 HA1 HB1 hM2 e0 e1 e2 e3 e4 e5 e6 e7 e8
      obtain ⟨⟨e0, e1, e2, e3⟩, ⟨e4, e5, e6⟩, ⟨e7, e8⟩⟩ := msg_cells HM2.out
      obtain ⟨L2, hL2, _⟩ := HA2.out.cell
      obtain ⟨_, ⟨c4, _, _, _⟩, ⟨c8, _, _, _⟩, _⟩ := hL2.cells
      clear hL2
      have hw1 : IntKind.i64.wrap (y.term + 1) = y.term + 1 := wr_i64 (by have := HTT.out; omega) (by have := HTT.out; omega)
      have hw2 : wrap64 (y.term + 1) = y.term + 1 := wr_64 (by have := HTT.out; omega) (by have := HTT.out; omega)
      obtain ⟨b, hb⟩ : ∃ b, (m.yes && (decide (m.term = y.term + 1) && decide (y.role = 1))) = b := ⟨_, rfl⟩
      have HBQ := Lib.hid hb
      clear hb
      go_upto_region 3 with (fail)
      go_cut [38] (fun v wx => v = .bool b ∧ Below wc.heap.size wc wx)
      case first =>
        rcases bool_two m.yes with hye | hye
        · have hb0 : b = false := by rw [← HBQ.out, hye]; rfl
          subst hb0
          rw [hye] at e7
          clear hye
          go_big_quiet (fail)
          go_wp2_with fail
          go_meet
          exact ⟨rfl, below_drewN (Below.refl _ _) nq⟩
        · rw [hye] at e7
          by_cases h1 : m.term = y.term + 1
          · have q1 : (m.term == y.term + 1) = true := by rw [beq_iff_eq]; exact h1
            by_cases h2 : y.role = 1
            · have hb0 : b = true := by rw [← HBQ.out, hye, decide_eq_true h1, decide_eq_true h2]; rfl
              have q2 : (y.role == 1) = true := by rw [beq_iff_eq]; exact h2
              subst hb0
              clear h1 h2 hye
              go_big_quiet (fail)
              go_wp2_with fail
              go_meet
              exact ⟨rfl, below_drewN (Below.refl _ _) nq⟩
            · have hb0 : b = false := by rw [← HBQ.out, hye, decide_eq_true h1, decide_eq_false h2]; rfl
              have q2 : (y.role == 1) = false := by rw [beq_eq_false_iff_ne]; exact h2
              subst hb0
              clear h1 h2 hye
              go_big_quiet (fail)
              go_wp2_with fail
              go_meet
              exact ⟨rfl, below_drewN (Below.refl _ _) nq⟩
          · have hb0 : b = false := by rw [← HBQ.out, hye, decide_eq_false h1]; rfl
            have q1 : (m.term == y.term + 1) = false := by rw [beq_eq_false_iff_ne]; exact h1
            subst hb0
            clear h1 hye
            go_big_quiet (fail)
            go_wp2_with fail
            go_meet
            exact ⟨rfl, below_drewN (Below.refl _ _) nq⟩
      case rest =>
        obtain ⟨rfl, hbc⟩ := hcut
        have HM3 := Lib.hid (HM2.out.below hbc HM2.out.lt)
        have HA3 := Lib.hid (HA2.out.on hbc)
        have HT3 := Lib.hid (HT2.out.on hbc)
        have HS3 := Lib.hid (fun k (hk : S1 k) => (HS2.out k hk).imp id (fun h => And.intro h.1 (Nat.lt_of_lt_of_le h.2 hbc.size)))
        have HX3 := Lib.hid (Nat.le_trans HX2.out hbc.size)
        clear hbc HM2 HA2 HT2 HS2 HX2 e0 e1 e2 e3 e4 e5 e6 e7 e8 c4 c8 hw1 hw2
        obtain ⟨⟨e0, e1, e2, e3⟩, ⟨e4, e5, e6⟩, ⟨e7, e8⟩⟩ := msg_cells HM3.out
        rw [HFF.out] at e1
        cases b
        · have HZ := Lib.hid (show z = y by
            rw [HF.out, if_neg]
            rintro ⟨h1, h2, h3⟩
            have h9 := HBQ.out
            rw [h1, decide_eq_true h2, decide_eq_true h3] at h9
            cases h9)
          go_wp2_with fail
          go_end0
          rw [HZ.out]
          exact ⟨rfl, NMoves.trans HT3.out HS3.out (NMoves.same HA3.out)⟩
        · have hbq := HBQ.out
          rw [Bool.and_eq_true, Bool.and_eq_true, decide_eq_true_iff, decide_eq_true_iff] at hbq
          have HZ := Lib.hid (show z = hear1F y ff by rw [HF.out, if_pos hbq])
          have HHE := Lib.hid (hear1_any base g y ff S1 wc HA3.out hbq.2.2 (by rw [HSA.out.2.1]; exact HX.out.2.2.2.2.2.2.2.1) (by rw [HSA.out.2.2.2.2.1]; exact HX.out.2.2.2.2.2.2.1) (by rw [HSA.out.2.1]; exact HX.out.1) (by rw [HSA.out.2.1]; exact HX.out.2.1) (by rw [HSA.out.1]; exact HX.out.2.2.1) (by rw [HSA.out.1, HSA.out.2.1]; exact HX.out.2.2.2.1) (by rw [HSA.out.2.2.1]; exact HX.out.2.2.2.2.1) HX3.out (by rw [HSA.out.2.2.2.1]; exact HX.out.2.2.2.2.2.1) HTT.out.1 (by have := HTT.out; omega))
          clear hbq
          go_wp2_with fail
          refine HHE.out.mono ?_
          rintro e w3 ⟨rfl, hm⟩
          have HM4 := Lib.hid (NMoves.trans HT3.out HS3.out hm)
          clear hm
          go_wp2_with fail
          go_end0
          rw [HZ.out]
          exact ⟨rfl, HM4.out⟩
end Go.Proofs.Ytlggkeoihpcdiaa

/- What a call leaves that turns the row of peers, too; the walks of package raft's takeLacks and takeHas. -/
namespace Go.Proofs.Ytlggkeoihpcdiaa
open Go.RowKit

/-- only the blocks S, and what is new, have turned: the row of peers, too -/
structure Turn0 (S : Nat → Prop) (a w : World) : Prop where
  os : w.os = a.os
  tape : w.tape = a.tape
  output : w.output = a.output
  size : a.heap.size ≤ w.heap.size
  block : ∀ k, k < a.heap.size → ¬ S k → w.heap[k]? = a.heap[k]?
def NMoves0 (w : World) (base g : Nat) (S : Nat → Prop) (x : NodeM) (w' : World) : Prop :=
  ∃ S', NodeAt w' base g x S' ∧ Turn0 S w w' ∧ ∀ k, S' k → S k ∨ (w.heap.size ≤ k ∧ k < w'.heap.size)
section
variable {w w' : World} {base g : Nat} {x x' : NodeM} {L : NodeL} {S : Nat → Prop}
theorem Turn.to0 (h : Turn S w w') : Turn0 S w w' := ⟨h.os, h.tape, h.output, h.size, h.block⟩
theorem NMoves.to0 (h : NMoves w base g S x w') : NMoves0 w base g S x w' := by
  obtain ⟨S', h1, h2, h3⟩ := h
  exact ⟨S', h1, h2.to0, h3⟩
theorem Turn0.below {B : Nat} (h : Turn0 S w w') (hB : B ≤ w.heap.size) (hS : ∀ k, S k → B ≤ k) : Below B w w' := ⟨h.os, h.tape, h.output, h.size, fun k hk => h.block k (by omega) (fun hs => by have := hS k hs; omega)⟩
theorem Turn0.of_below (h : Below w.heap.size w w') : Turn0 S w w' := (Turn.of_below h).to0
theorem Turn0.on {a : World} (h : Turn0 S a w) (hb : Below w.heap.size w w') : Turn0 S a w' :=
  ⟨hb.os.trans h.os, hb.tape.trans h.tape, hb.output.trans h.output, Nat.le_trans h.size hb.size, fun k hk hn => (hb.block k (Nat.lt_of_lt_of_le hk h.size)).trans (h.block k hk hn)⟩
theorem Turn0.trans {S1 : Nat → Prop} {w1 w2 : World} (h : Turn0 S w w1) (k : Turn0 S1 w1 w2) (hs : ∀ i, S1 i → S i ∨ (w.heap.size ≤ i ∧ i < w1.heap.size)) : Turn0 S w w2 :=
  ⟨k.os.trans h.os, k.tape.trans h.tape, k.output.trans h.output, Nat.le_trans h.size k.size, fun i hi hn => (k.block i (Nat.lt_of_lt_of_le hi h.size) (fun h1 => (hs i h1).elim hn (fun h2 => by omega))).trans (h.block i hi hn)⟩
theorem NMoves0.trans {S1 : Nat → Prop} {w1 w2 : World} (ht : Turn0 S w w1) (hs : ∀ i, S1 i → S i ∨ (w.heap.size ≤ i ∧ i < w1.heap.size)) (k : NMoves0 w1 base g S1 x' w2) : NMoves0 w base g S x' w2 := by
  obtain ⟨S2, h1, h2, h3⟩ := k
  refine ⟨S2, h1, ht.trans h2 hs, fun i hi => ?_⟩
  rcases h3 i hi with h4 | h4
  · rcases hs i h4 with h5 | h5
    · exact .inl h5
    · exact .inr ⟨h5.1, Nat.lt_of_lt_of_le h5.2 h2.size⟩
  · exact .inr ⟨Nat.le_trans ht.size h4.1, h4.2⟩
theorem NMoves0.step {w0 : World} {B : Nat} (hB0 : B ≤ w0.heap.size) (hb : Below B w0 w) (h : NodeAt w base g x S) (hB : B ≤ base) (m : NMoves0 w base g S x' w') : ∃ S', NodeAt w' base g x' S' ∧ Below B w0 w' := by
  obtain ⟨S', h1, h2, _⟩ := m
  exact ⟨S', h1, hb.trans (h2.below (Nat.le_trans hB0 hb.size) (fun k hk => Nat.le_trans hB (h.base_has k hk)))⟩
theorem Turn0.set_ {a : World} (h : Turn0 S a w) {b : Nat} (hb : S b) (i : Nat) (u : Value) : Turn0 S a (w.setCell ⟨b, i, none⟩ u) :=
  ⟨h.os, h.tape, h.output, by simpa [World.setCell] using h.size, fun k hk hn => (Below.heap_setCell w _ u k (fun e => by have e9 : k = b := e; subst e9; exact hn hb)).trans (h.block k hk hn)⟩
end

/-- one cell of such a row turns -/
theorem FreeN.cellset {sz : Nat} {w : World} {base n c b off i : Nat} {e : TypeId} {xs : List Value} (h : FreeN sz w base e (some ⟨b, off, none⟩) n c xs) (hi : i < n * sz) (u : Value) : FreeN sz (w.setCell ⟨b, off + i, none⟩ u) base e (some ⟨b, off, none⟩) n c (xs.set i u) := by
  refine ⟨by rw [List.length_set]; exact h.1, h.2.1, h.2.2.1, fun hc => ?_⟩
  obtain ⟨g, o, cur, hA, hg, hB, hs, hx⟩ := h.2.2.2 hc
  injection hA with hA
  injection hA with h1 h2 _
  subst h1
  subst h2
  refine ⟨b, off, cur.setIfInBounds (off + i) u, rfl, hg, hB.set_ _ u, by simpa using hs, fun j hj => ?_⟩
  have hnc : n * sz ≤ c * sz := Nat.mul_le_mul_right sz h.2.1
  rw [Array.getElem?_setIfInBounds, List.getElem?_set]
  by_cases hji : i = j
  · subst hji
    rw [if_pos rfl, if_pos (by omega), if_pos rfl, if_pos (by rw [h.1]; exact hi)]
  · rw [if_neg (by omega), if_neg hji]
    exact hx j hj
theorem pcs_set_has (ps : List PeerM) (j : Nat) (hj : j < ps.length) (v : Int) : (pcs ps).set (j * 2) (.int .i64 v) = pcs (ps.set j { ps[j] with has := v }) := by
  induction ps generalizing j with
  | nil => simp at hj
  | cons p ps ih =>
    cases j with
    | zero => rfl
    | succ j =>
      have e : pcs (p :: ps) = .int .i64 p.has :: .int .i64 p.next :: pcs ps := rfl
      rw [e, show (j + 1) * 2 = j * 2 + 1 + 1 from by omega, List.set_cons_succ, List.set_cons_succ, ih j (by simpa using hj)]
      rfl
theorem pcs_set_next (ps : List PeerM) (j : Nat) (hj : j < ps.length) (v : Int) : (pcs ps).set (j * 2 + 1) (.int .i64 v) = pcs (ps.set j { ps[j] with next := v }) := by
  induction ps generalizing j with
  | nil => simp at hj
  | cons p ps ih =>
    cases j with
    | zero => rfl
    | succ j =>
      have e : pcs (p :: ps) = .int .i64 p.has :: .int .i64 p.next :: pcs ps := rfl
      rw [e, show (j + 1) * 2 + 1 = (j * 2 + 1) + 1 + 1 from by omega, List.set_cons_succ, List.set_cons_succ, ih j (by simpa using hj)]
      rfl
/-- a cell of the row of peers turns -/
theorem NodeR.peerset {w : World} {base g b off i : Nat} {x : NodeM} {L : NodeL} {ps : List PeerM} (h : NodeR w base g x L) (hA : L.Ap = some ⟨b, off, none⟩) (hi : i < x.peers.length * 2) (u : Value) (hps : (pcs x.peers).set i u = pcs ps) (hl : ps.length = x.peers.length) : NodeR (w.setCell ⟨b, off + i, none⟩ u) base g { x with peers := ps } L ∧ foot L.Ap L.cp = some b ∧ ∃ cs, Blk (w.setCell ⟨b, off + i, none⟩ u) b 152 cs := by
  have hp := h.peers
  rw [hA] at hp
  have hcp : 0 < L.cp := by have := hp.2.1; omega
  have hft : foot L.Ap L.cp = some b := by unfold foot; rw [if_pos hcp, hA]; rfl
  obtain ⟨_, cur, hB⟩ := h.peers.foot_at b hft
  obtain ⟨Al, cl, hlb, _⟩ := h.log
  have hset := hp.cellset hi u
  rw [hps] at hset
  refine ⟨⟨?_, h.base_le, ?_, ?_, ?_, h.msgs, fun y hy => ⟨(h.rows y hy).1, ?_, (h.rows y hy).2.2⟩⟩, hft, _, hB.set_ _ u⟩
  · have e : ncells { x with peers := ps } L = ncells x L := by simp [ncells, hl]
    rw [e]
    exact h.blk.far (p := ⟨b, off + i, none⟩) (h.blk.apart hB (by decide)) u
  · refine h.log.far (p := ⟨b, off + i, none⟩) (hlb.apart hB (by decide)) (fun k hk => ?_) u
    obtain ⟨_, cur2, hC⟩ := h.log.foot_at k hk
    exact hC.apart hB (by decide)
  · rw [hA]
    simp only [hl]
    exact hset
  · refine h.out.far (p := ⟨b, off + i, none⟩) (fun k hk => ?_) u
    obtain ⟨_, cur2, hC⟩ := h.out.foot_at k hk
    exact hC.apart hB (by decide)
  · refine (h.rows y hy).2.1.far (p := ⟨b, off + i, none⟩) (fun k hk => ?_) u
    obtain ⟨_, cur2, hC⟩ := (h.rows y hy).2.1.foot_at k hk
    exact hC.apart hB (by decide)
end Go.Proofs.Ytlggkeoihpcdiaa

/- The walks of package raft's takeLacks and takeHas. -/
namespace Go.Proofs.Ytlggkeoihpcdiaa
open Go.RowKit

def lackNext (p : PeerM) (i : Int) : Int := max (min i (p.next - 2)) p.has + 1
def lackedF (x : NodeM) (f : Nat) (i : Int) : NodeM := { x with peers := x.peers.set f { x.peers.getD f ⟨0, 0⟩ with next := lackNext (x.peers.getD f ⟨0, 0⟩) i } }
def takeLacksF (x : NodeM) (f : Nat) (i : Int) : NodeM := sendF (lackedF x f i) f

set_option maxRecDepth 100000 in
set_option maxHeartbeats 1600000 in
/-- (*raft.Node).takeLacks -/
theorem takeLacks_any (base g : Nat) (x : NodeM) (f : Nat) (i : Int) (S : Nat → Prop) (w : World) (h : NodeAt w base g x S) (hf : f < x.peers.length) (hf7 : f ≤ 7) (hh : 0 ≤ x.peers[f].has ∧ x.peers[f].has ≤ 1099511627775) (hp : 1 ≤ x.peers[f].next ∧ x.peers[f].next ≤ 1099511627776) (hi : -9223372036854775808 ≤ i) (hl : x.log.length ≤ 1048576) (hB : base ≤ w.heap.size) (ho : x.out.length ≤ 1000000) :
    Calls Try.prog 107 #[.pointer (some ⟨g, 0, none⟩), .int .i64 (f : Int), .int .i64 i] w fun e w' => e = .returned (.tuple #[]) ∧ NMoves0 w base g S (takeLacksF x f i) w' := by
  obtain ⟨L, hL, hS⟩ := h.cell
  obtain ⟨_, _, _, ⟨_, c13, _, _, _⟩⟩ := hL.cells
  obtain ⟨b, off, hAp, hbl, d0, d1⟩ := hL.peer hf
  have hgd : x.peers.getD f ⟨0, 0⟩ = x.peers[f] := by rw [List.getD_eq_getElem?_getD, List.getElem?_eq_getElem hf]; rfl
  obtain ⟨hn1, hft, cs, hblk⟩ := hL.peerset hAp (i := f * 2 + 1) (by omega) (.int .i64 (lackNext x.peers[f] i)) (pcs_set_next x.peers f hf (lackNext x.peers[f] i)) (by simp)
  obtain ⟨_, cur, hB2⟩ := hL.peers.foot_at b hft
  have fr := hB2.frozen (off + f * 2 + 1)
  have HF := Lib.hid (show takeLacksF x f i = sendF { x with peers := x.peers.set f { x.peers[f] with next := lackNext x.peers[f] i } } f by unfold takeLacksF lackedF; rw [hgd])
  have hbd : 1 ≤ lackNext x.peers[f] i ∧ lackNext x.peers[f] i ≤ 1099511627776 := by unfold lackNext; omega
  have hlen : (x.peers.set f { x.peers[f] with next := lackNext x.peers[f] i }).length = x.peers.length := by simp
  have hget : ∀ (h : f < (x.peers.set f { x.peers[f] with next := lackNext x.peers[f] i }).length), (x.peers.set f { x.peers[f] with next := lackNext x.peers[f] i })[f].next = lackNext x.peers[f] i := fun h => by simp
  have hlk : lackNext x.peers[f] i = max (min i (x.peers[f].next - 2)) x.peers[f].has + 1 := rfl
  have hw1 : IntKind.i64.wrap (x.peers[f].next - 2) = x.peers[f].next - 2 := by rw [IntKind.wrap_i64]; omega
  have hw2 : IntKind.i64.wrap (min i (x.peers[f].next - 2) + 1) = min i (x.peers[f].next - 2) + 1 := by rw [IntKind.wrap_i64]; omega
  have hw3 : IntKind.i64.wrap (x.peers[f].has + 1) = x.peers[f].has + 1 := by rw [IntKind.wrap_i64]; omega
  have hT : Turn0 S w (w.setCell ⟨b, off + f * 2 + 1, none⟩ (.int .i64 (lackNext x.peers[f] i))) := (Turn.refl S w).to0.set_ ((hS b).2 (.inr (.inr (.inr (.inl hft))))) _ _
  have hna : NodeAt (w.setCell ⟨b, off + f * 2 + 1, none⟩ (.int .i64 (lackNext x.peers[f] i))) base g { x with peers := x.peers.set f { x.peers[f] with next := lackNext x.peers[f] i } } S := ⟨L, hn1, hS⟩
  have HSE := Lib.hid (send_any base g _ f S _ hna (by rw [hlen]; exact hf) (by rw [hget]; exact hbd) hl (Nat.le_trans hB hT.size) (by show x.out.length ≤ 1048576; omega) hf7)
  have HT := Lib.hid hT
  have hfp : (f : Int) < (x.peers.length : Int) := by omega
  have hf0 : (0 : Int) ≤ (f : Int) := by omega
  rw [hlk] at HSE HT
  have HFE := Lib.hid (show takeLacksF x f i = sendF { x with peers := x.peers.set f { x.peers[f] with next := max (min i (x.peers[f].next - 2)) x.peers[f].has + 1 } } f by rw [HF.out, hlk])
  generalize ({ x with peers := x.peers.set f { x.peers[f] with next := max (min i (x.peers[f].next - 2)) x.peers[f].has + 1 } } : NodeM) = y at *
  rw [hAp] at c13
  clear hL hS h hgd hn1 hft hblk hB2 HF hbd hlen hget hlk hT hna hi hl hB ho hh hp
  generalize x.peers[f].next = nx at *
  generalize x.peers[f].has = hs at *
  generalize x.peers.length = np at *
  go_enter Try.func107, Try.ntmps107
  go_wp2_with fail
  refine HSE.out.mono ?_
  rintro e w1 ⟨rfl, hm⟩
  have HM := Lib.hid (NMoves0.trans HT.out (fun _ hk => .inl hk) hm.to0)
  clear hm
  go_wp2_with fail
  go_end0
  rw [HFE.out]
  exact ⟨rfl, HM.out⟩
end Go.Proofs.Ytlggkeoihpcdiaa

/- The walk of package raft's takeHas. -/
namespace Go.Proofs.Ytlggkeoihpcdiaa
open Go.RowKit

def hasF (x : NodeM) (f : Nat) (i : Int) : NodeM := { x with peers := x.peers.set f ⟨max (x.peers.getD f ⟨0, 0⟩).has i, max (x.peers.getD f ⟨0, 0⟩).has i + 1⟩ }
def hasAllF (y : NodeM) : NodeM := if (commitF y).2 = true then sendAllF (commitF y).1 else (commitF y).1
def takeHasF (x : NodeM) (f : Nat) (i : Int) : NodeM :=
  if max (x.peers.getD f ⟨0, 0⟩).has i + 1 ≤ ((hasAllF (hasF x f i)).log.length : Int) then sendF (hasAllF (hasF x f i)) f else hasAllF (hasF x f i)
/-- what commitMost and sendAll leave as it was -/
theorem hasAllF_same (y : NodeM) : (hasAllF y).id = y.id ∧ (hasAllF y).n = y.n ∧ (hasAllF y).peers = y.peers ∧ (hasAllF y).log = y.log ∧ (hasAllF y).term = y.term ∧ (hasAllF y).role = y.role ∧ (hasAllF y).out.length ≤ y.out.length + y.n.toNat := by
  obtain ⟨c1, c2, c3, c4, c5, c6⟩ := commitF_same y
  have c7 : (commitF y).1.role = y.role := by unfold commitF; split <;> rfl
  unfold hasAllF
  split
  · obtain ⟨o, ho, hl⟩ := sendAllF_told (commitF y).1
    rw [ho]
    simp only
    exact ⟨c1, c2, c3, c4, c6, c7, by rw [← c2, ← c5]; exact hl⟩
  · exact ⟨c1, c2, c3, c4, c6, c7, by rw [c5]; omega⟩

set_option maxRecDepth 100000 in
set_option maxHeartbeats 1600000 in
/-- (*raft.Node).takeHas -/
theorem takeHas_any (base g : Nat) (x : NodeM) (f : Nat) (i : Int) (S : Nat → Prop) (w : World) (h : NodeAt w base g x S) (hf : f < x.peers.length) (hf7 : f ≤ 7) (hn0 : 0 < x.n) (hn7 : x.n ≤ 7) (hid0 : 0 ≤ x.id) (hid : x.id < x.n) (hpl : (x.peers.length : Int) = x.n) (hhs : ∀ p ∈ x.peers, 0 ≤ p.has ∧ p.has ≤ 1048576) (hpn : ∀ p ∈ x.peers, 1 ≤ p.next ∧ p.next ≤ 1099511627776) (hi0 : 0 ≤ i) (hi : i ≤ 1048576) (hl : x.log.length ≤ 1048576) (hB : base ≤ w.heap.size) (ho : x.out.length ≤ 1000000) :
    Calls Try.prog 108 #[.pointer (some ⟨g, 0, none⟩), .int .i64 (f : Int), .int .i64 i] w fun e w' => e = .returned (.tuple #[]) ∧ NMoves0 w base g S (takeHasF x f i) w' := by
  obtain ⟨L, hL, hS⟩ := h.cell
  obtain ⟨_, _, _, ⟨_, c13, _, _, _⟩⟩ := hL.cells
  obtain ⟨b, off, hAp, hbl, d0, d1⟩ := hL.peer hf
  have hgd : x.peers.getD f ⟨0, 0⟩ = x.peers[f] := by rw [List.getD_eq_getElem?_getD, List.getElem?_eq_getElem hf]; rfl
  have hb1 := hhs _ (List.getElem_mem hf)
  obtain ⟨M, hM⟩ : ∃ M, max x.peers[f].has i = M := ⟨_, rfl⟩
  have hMb : 0 ≤ M ∧ M ≤ 1048576 := by omega
  obtain ⟨hn1, hft, cs1, hblk1⟩ := hL.peerset hAp (i := f * 2) (by omega) (.int .i64 M) (pcs_set_has x.peers f hf M) (by simp)
  have hf1 : f < (x.peers.set f { x.peers[f] with has := M }).length := by simp; exact hf
  obtain ⟨hn2, _, cs2, hblk2⟩ := hn1.peerset hAp (i := f * 2 + 1) (by simp; omega) (.int .i64 (M + 1)) (pcs_set_next _ f hf1 (M + 1)) (by simp)
  have hpe : (x.peers.set f { x.peers[f] with has := M }).set f { (x.peers.set f { x.peers[f] with has := M })[f] with next := M + 1 } = x.peers.set f ⟨M, M + 1⟩ := by simp
  simp only at hn2
  rw [hpe] at hn2
  have hy : hasF x f i = { x with peers := x.peers.set f ⟨M, M + 1⟩ } := by unfold hasF; rw [hgd, hM]
  have hHF : takeHasF x f i = if M + 1 ≤ ((hasAllF (hasF x f i)).log.length : Int) then sendF (hasAllF (hasF x f i)) f else hasAllF (hasF x f i) := by unfold takeHasF; rw [hgd, hM]
  obtain ⟨_, cur, hB2⟩ := hL.peers.foot_at b hft
  have fr0 := hB2.frozen (off + f * 2)
  have fr1 := (hB2.set_ (off + f * 2) (.int .i64 M)).frozen (off + f * 2 + 1)
  have g0 : (w.setCell ⟨b, off + f * 2, none⟩ (.int .i64 M)).cell? ⟨b, off + f * 2 + 1, none⟩ = some (.int .i64 x.peers[f].next) := by
    have h9 := d1
    rw [hB2.cell] at h9
    rw [(hB2.set_ (off + f * 2) (.int .i64 M)).cell, Array.getElem?_setIfInBounds, if_neg (by omega)]
    exact h9
  have g1 : (w.setCell ⟨b, off + f * 2, none⟩ (.int .i64 M)).cell? ⟨b, off + f * 2, none⟩ = some (.int .i64 M) := by
    have h9 := d0
    rw [hB2.cell] at h9
    have hlt := (Array.getElem?_eq_some_iff.1 h9).1
    rw [(hB2.set_ (off + f * 2) (.int .i64 M)).cell, Array.getElem?_setIfInBounds, if_pos rfl, if_pos hlt]
  have g2 : ((w.setCell ⟨b, off + f * 2, none⟩ (.int .i64 M)).setCell ⟨b, off + f * 2 + 1, none⟩ (.int .i64 (M + 1))).cell? ⟨b, off + f * 2 + 1, none⟩ = some (.int .i64 (M + 1)) := by
    have h9 := g0
    rw [(hB2.set_ (off + f * 2) (.int .i64 M)).cell] at h9
    have hlt := (Array.getElem?_eq_some_iff.1 h9).1
    rw [((hB2.set_ (off + f * 2) (.int .i64 M)).set_ (off + f * 2 + 1) (.int .i64 (M + 1))).cell, Array.getElem?_setIfInBounds, if_pos rfl, if_pos hlt]
  have hSb : S b := (hS b).2 (.inr (.inr (.inr (.inl hft))))
  have hT2 := (((Turn.refl S w).to0.set_ hSb (off + f * 2) (.int .i64 M)).set_ hSb (off + f * 2 + 1) (.int .i64 (M + 1)))
  have hbk2 := (hB2.set_ (off + f * 2) (.int .i64 M)).set_ (off + f * 2 + 1) (.int .i64 (M + 1))
  obtain ⟨y, hyy⟩ : ∃ y : NodeM, y = { x with peers := x.peers.set f ⟨M, M + 1⟩ } := ⟨_, rfl⟩
  have hna2 : NodeAt ((w.setCell ⟨b, off + f * 2, none⟩ (.int .i64 M)).setCell ⟨b, off + f * 2 + 1, none⟩ (.int .i64 (M + 1))) base g y S := by
    rw [hyy]
    exact ⟨L, hn2, hS⟩
  rw [← hyy] at hy
  rw [hy] at hHF
  have hyx : y.id = x.id ∧ y.n = x.n ∧ y.log = x.log ∧ y.out = x.out ∧ y.peers = x.peers.set f ⟨M, M + 1⟩ := by rw [hyy]; exact ⟨rfl, rfl, rfl, rfl, rfl⟩
  have hyn : ∀ p ∈ y.peers, 1 ≤ p.next ∧ p.next ≤ 1099511627776 := by
    intro p hp
    rw [hyx.2.2.2.2] at hp
    rcases List.mem_or_eq_of_mem_set hp with h9 | h9
    · exact hpn p h9
    · rw [h9]
      exact ⟨by simp only; omega, by simp only; omega⟩
  have hfy : f < y.peers.length := by rw [hyx.2.2.2.2]; simp; exact hf
  have hfn : y.peers[f].next = M + 1 := by simp [hyx.2.2.2.2]
  have HY := Lib.hid (And.intro (show 0 < y.n by rw [hyx.2.1]; exact hn0) (And.intro (show y.n ≤ 7 by rw [hyx.2.1]; exact hn7) (And.intro (show 0 ≤ y.id by rw [hyx.1]; exact hid0) (And.intro (show y.id < y.n by rw [hyx.1, hyx.2.1]; exact hid) (And.intro (show (y.peers.length : Int) = y.n by rw [hyx.2.2.2.2, hyx.2.1, List.length_set]; exact hpl) (And.intro (show y.log.length ≤ 1048576 by rw [hyx.2.2.1]; exact hl) (show y.out.length ≤ 1000000 by rw [hyx.2.2.2.1]; exact ho)))))))
  have HYN := Lib.hid hyn
  have HFY := Lib.hid (show ∃ h : f < y.peers.length, y.peers[f].next = M + 1 from ⟨hfy, hfn⟩)
  have HNA := Lib.hid hna2
  have HT2 := Lib.hid hT2
  have HBK := Lib.hid hbk2
  have HB2 := Lib.hid (Nat.le_trans hB hT2.size)
  have HHF := Lib.hid hHF
  have HG2 := Lib.hid g2
  have hfp : (f : Int) < (x.peers.length : Int) := by omega
  have hf0 : (0 : Int) ≤ (f : Int) := by omega
  have hw1 : IntKind.i64.wrap (M + 1) = M + 1 := wr_i64 (by omega) (by omega)
  have HMB := Lib.hid hMb
  rw [hAp] at c13
  clear hna2 hT2 hbk2 hHF g2 hfy hfn hyn hyx hyy hy hSb hn1 hn2 hf1 hpe hgd hb1 hft hblk1 hblk2 hL hS h hn0 hn7 hid0 hid hpl hhs hpn hi0 hi hl hB ho hB2 hMb
  generalize x.peers[f].next = nx at *
  generalize x.peers[f].has = hs at *
  generalize x.peers.length = np at *
  go_enter Try.func108, Try.ntmps108
  go_upto_region 3 with (fail)
  clear d0 d1 g0 g1 c13 fr0 fr1 hM hw1
  generalize ((w.setCell ⟨b, off + f * 2, none⟩ (.int .i64 M)).setCell ⟨b, off + f * 2 + 1, none⟩ (.int .i64 (M + 1))) = w2 at *
  have HCM := Lib.hid (commitMost_any base g y S w2 HNA.out HY.out.1 HY.out.2.1 HY.out.2.2.1 HY.out.2.2.2.1 HY.out.2.2.2.2.1 HY.out.2.2.2.2.2.1 HB2.out)
  have hcs := commitF_same y
  have HZ := Lib.hid (show hasAllF y = if (commitF y).2 = true then sendAllF (commitF y).1 else (commitF y).1 from rfl)
  have HZS := Lib.hid (hasAllF_same y)
  generalize hasAllF y = z at *
  generalize commitF y = cf at *
  obtain ⟨cy, cb⟩ := cf
  simp only at hcs HZ HCM
  have HCS := Lib.hid hcs
  clear hcs
  go_wp2_with fail
  refine HCM.out.mono ?_
  rintro e w3 ⟨rfl, S3, hna3, ht3, hs3⟩
  have HNA3 := Lib.hid hna3
  have HT3 := Lib.hid ht3
  have HS3 := Lib.hid hs3
  clear hna3 ht3 hs3 HCM
  go_upto_if 31 with (fail)
  go_cut [] (fun wx => NMoves w2 base g S z wx)
  case first =>
    cases cb
    · have HE := Lib.hid (show z = cy by rw [HZ.out]; rfl)
      go_wp2_with fail
      go_meet
      rw [HE.out]
      exact ⟨S3, HNA3.out, HT3.out, HS3.out⟩
    · have HE := Lib.hid (show z = sendAllF cy by rw [HZ.out]; rfl)
      have HSA := Lib.hid (sendAll_any base g cy S3 w3 HNA3.out (by rw [HCS.out.2.1]; exact HY.out.1) (by rw [HCS.out.2.1]; exact HY.out.2.1) (by rw [HCS.out.2.2.2.1]; exact HY.out.2.2.2.2.2.1) (Nat.le_trans HB2.out HT3.out.size) (by rw [HCS.out.2.2.2.2.1]; exact HY.out.2.2.2.2.2.2) (by rw [HCS.out.2.1, HCS.out.2.2.1, HY.out.2.2.2.2.1]; exact Int.le_refl _) (by rw [HCS.out.2.2.1]; exact HYN.out))
      go_wp2_with fail
      refine HSA.out.mono ?_
      rintro e w4 ⟨rfl, hm⟩
      have HM4 := Lib.hid (NMoves.trans HT3.out HS3.out hm)
      clear hm
      go_wp2_with fail
      go_meet
      rw [HE.out]
      exact HM4.out
  case rest =>
    obtain ⟨S4, hna4, ht4, hs4⟩ := hcut
    have hbk := (ht4.peers b _ HBK.out).trans HBK.out
    have d1 : wc.cell? ⟨b, off + f * 2 + 1, none⟩ = some (.int .i64 (M + 1)) := by
      rw [World.cell?_of_block (w := w2) (ht4.peers b _ HBK.out)]
      exact HG2.out
    obtain ⟨z1, z2, z3, z4, _, _, z7⟩ := HZS.out
    have HLA := Lib.hid (fun W (hW : Below wc.heap.size wc W) => nLast_any base g z S4 W (hna4.on hW) (by rw [z2]; exact HY.out.1) (by rw [z4]; exact HY.out.2.2.2.2.2.1))
    have HNA4 := Lib.hid hna4
    have HT4 := Lib.hid (HT2.out.trans ht4.to0 (fun _ hk => .inl hk))
    have HS4 := Lib.hid (show ∀ k, S4 k → S k ∨ (w.heap.size ≤ k ∧ k < wc.heap.size) from fun k hk => (hs4 k hk).imp id (fun h => ⟨Nat.le_trans HT2.out.size h.1, h.2⟩))
    have HB4 := Lib.hid (Nat.le_trans HB2.out ht4.size)
    have HSE := Lib.hid (fun W (hW : Below wc.heap.size wc W) => send_any base g z f S4 W (hna4.on hW) (by rw [z3]; exact HFY.out.1) (by have h9 := HYN.out _ (List.getElem_mem HFY.out.1); simp only [z3]; exact h9) (by rw [z4]; exact HY.out.2.2.2.2.2.1) (Nat.le_trans (Nat.le_trans HB2.out ht4.size) hW.size) (by have h8 := HY.out; have h9 := z7; omega) hf7)
    clear hna4 ht4 hs4 hbk z1 z2 z3 z4 z7
    go_upto_region 5 with (fail)
    go_cut [40] (fun v wx => v = .bool (decide (M + 1 ≤ (z.log.length : Int))) ∧ Below wc.heap.size wc wx)
    case first =>
      go_big_quiet (first | (go_at_call 33; refine Calls.quiet_of_same (HLA.out _ (below_drewN (Below.refl _ _) _))))
      go_wp2_with fail
      go_meet
      exact ⟨rfl, below_drewN (Below.refl _ _) nq⟩
    case rest =>
      obtain ⟨rfl, hbc⟩ := hcut
      have HT5 := Lib.hid (HT4.out.on hbc)
      have HS5 := Lib.hid (fun k (hk : S4 k) => (HS4.out k hk).imp id (fun h => And.intro h.1 (Nat.lt_of_lt_of_le h.2 hbc.size)))
      have HNA5 := Lib.hid (HNA4.out.on hbc)
      have HSE5 := Lib.hid (HSE.out _ hbc)
      clear hbc d1 HSE HLA
      by_cases hle : M + 1 ≤ (z.log.length : Int)
      · have hled : decide (M + 1 ≤ (z.log.length : Int)) = true := decide_eq_true hle
        have HE := Lib.hid (HHF.out.trans (if_pos hle))
        rw [hled]
        clear hle hled
        go_wp2_with fail
        refine HSE5.out.mono ?_
        rintro e w6 ⟨rfl, hm⟩
        have HM6 := Lib.hid (NMoves0.trans HT5.out HS5.out hm.to0)
        clear hm
        go_wp2_with fail
        go_end0
        rw [HE.out]
        exact ⟨rfl, HM6.out⟩
      · have hled : decide (M + 1 ≤ (z.log.length : Int)) = false := decide_eq_false hle
        have HE := Lib.hid (HHF.out.trans (if_neg hle))
        rw [hled]
        clear hle hled
        go_wp2_with fail
        go_end0
        rw [HE.out]
        exact ⟨rfl, S4, HNA5.out, HT5.out, HS5.out⟩
end Go.Proofs.Ytlggkeoihpcdiaa
