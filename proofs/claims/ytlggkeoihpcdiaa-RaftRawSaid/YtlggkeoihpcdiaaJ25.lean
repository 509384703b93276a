/- The walks of package raft's takeOfTerm, of an Append, and of Step, of whatever comes. -/
import Derived.Test.YtlggkeoihpcdiaaJ24
namespace Go.Proofs.Ytlggkeoihpcdiaa
open Go.RowKit

theorem firstF_commit (x : NodeM) (t : Int) : (firstF x t).commit = x.commit := by
  unfold firstF followF
  split <;> rfl
set_option maxRecDepth 100000 in
set_option maxHeartbeats 1600000 in
/-- (*raft.Node).takeOfTerm, of an Append -/
theorem ofTerm5_any (base g : Nat) (x : NodeM) (m : MsgM) (hk3 : m.k = 5) (A : Option Addr) (n c : Nat) (S : Nat → Prop) (w : World) (h : NodeAt w base g x S) (hs : Ents w base A m.es) (hln : m.es.length = n) (hnc : n ≤ c) (hn8 : n ≤ 8) (hn0 : 0 < x.n) (hmi0 : -9223372036854775808 ≤ m.i) (hmi1 : m.i ≤ 9223372036854775807) (hc0 : 0 ≤ x.commit) (hl : x.log.length ≤ 1048000) (hB : base ≤ w.heap.size) (ho : x.out.length ≤ 999990) :
    Calls Try.prog 59 #[.pointer (some ⟨g, 0, none⟩), .agg #[.int .i64 m.k, .int .i64 m.f, .int .i64 m.t, .int .i64 m.term, .int .i64 m.i, .int .i64 m.lt, .int .i64 m.c, .bool m.yes, .slice A n c]] w fun e w' => e = .returned (.tuple #[]) ∧ NMoves w base g S (ofTerm5F x m) w' := by
  obtain ⟨L, hL, hS⟩ := h.cell
  have hM := Blk.new w 61 #[.int .i64 m.k, .int .i64 m.f, .int .i64 m.t, .int .i64 m.term, .int .i64 m.i, .int .i64 m.lt, .int .i64 m.c, .bool m.yes, .slice A n c]
  have hb0 := (Below.refl w.heap.size w).alloc (Nat.le_refl _) (.cells #[.int .i64 m.k, .int .i64 m.f, .int .i64 m.t, .int .i64 m.term, .int .i64 m.i, .int .i64 m.lt, .int .i64 m.c, .bool m.yes, .slice A n c] 61)
  have HL := Lib.hid (hL.on hb0)
  have HA := Lib.hid (h.on hb0)
  have HM := Lib.hid hM
  have HB0 := Lib.hid hb0
  have HNS := Lib.hid (show ∀ k, S k → k < w.heap.size from fun k hk => h.has_lt _ hk)
  have HX := Lib.hid (And.intro hl (And.intro ho (Nat.le_trans hB hb0.size)))
  have HV := Lib.hid (And.intro hln (And.intro hnc (And.intro hn8 (And.intro hn0 (And.intro hmi0 (And.intro hmi1 (And.intro hc0 hB)))))))
  have HES := Lib.hid hs
  have HBS := Lib.hid (show ∀ k, S k → base ≤ k from fun k hk => h.base_has _ hk)
  have HFC := Lib.hid (firstF_commit x m.term)
  clear hln hnc hn8 hn0 hmi0 hmi1 hc0 hs
  have HK := Lib.hid hk3
  have HF := Lib.hid (show ofTerm5F x m = if m.term < (firstF x m.term).term then answerF (firstF x m.term) m.f false 0 else if (firstF x m.term).role = 3 then firstF x m.term else appendF (firstF x m.term) m from rfl)
  have HFI := Lib.hid (show firstF x m.term = if x.term < m.term then followF x m.term (-1) else x from rfl)
  have HSA := Lib.hid (firstF_same x m.term)
  generalize firstF x m.term = y at *
  generalize ofTerm5F x m = z at *
  clear hL h hM hb0 hS hl ho hB hk3
  go_enter Try.func59, Try.ntmps59
  go_upto_region 1 with (fail)
  generalize w.alloc (.cells #[.int .i64 m.k, .int .i64 m.f, .int .i64 m.t, .int .i64 m.term, .int .i64 m.i, .int .i64 m.lt, .int .i64 m.c, .bool m.yes, .slice A n c] 61) = w0 at *
  obtain ⟨⟨e0, e1, e2, e3⟩, ⟨e4, e5, e6⟩, ⟨e7, e8⟩⟩ := msg_cells HM.out
  obtain ⟨_, ⟨c4, c5, c6, c7⟩, _, _⟩ := HL.out.cells
  go_cut [10] (fun v wx => v = .bool (decide (x.term < m.term)) ∧ Below w0.heap.size w0 wx)
  case first =>
    go_big_quiet (fail)
    go_wp2_with fail
    go_meet
    exact ⟨rfl, below_drewN (Below.refl _ _) nq⟩
  case rest =>
    obtain ⟨rfl, hbc⟩ := hcut
    have HM1 := Lib.hid (HM.out.below hbc HM.out.lt)
    have HA1 := Lib.hid (HA.out.on hbc)
    have HB1 := Lib.hid (bthen HB0.out hbc)
    have HZ0 := Lib.hid hbc.size
    clear hbc HL HM HB0 HA e0 e1 e2 e3 e4 e5 e6 e7 e8 c4 c5 c6 c7
    obtain ⟨⟨e0, e1, e2, e3⟩, ⟨e4, e5, e6⟩, ⟨e7, e8⟩⟩ := msg_cells HM1.out
    go_upto_if 10 with (fail)
    go_cut [] (fun wx => NMoves wc base g S y wx)
    case first =>
      by_cases ht : x.term < m.term
      · have htd : decide (x.term < m.term) = true := decide_eq_true ht
        have HY := Lib.hid (show y = followF x m.term (-1) by rw [HFI.out, if_pos ht])
        have HFO := Lib.hid (follow_any base g x m.term (-1) S wc HA1.out)
        rw [htd]
        clear ht
        go_wp2_with fail
        refine HFO.out.mono ?_
        rintro e w3 ⟨rfl, hm⟩
        go_wp2_with fail
        go_meet
        rw [HY.out]
        exact hm
      · have htd : decide (x.term < m.term) = false := decide_eq_false ht
        have HY := Lib.hid (show y = x by rw [HFI.out, if_neg ht])
        rw [htd]
        clear ht
        go_wp2_with fail
        go_meet
        rw [HY.out]
        exact NMoves.same HA1.out
    case rest =>
      obtain ⟨S1, hna, htu, hsu⟩ := hcut
      have hM2 := htu.blk HM1.out (fun hk => by have := HNS.out _ hk; omega)
      have HM2 := Lib.hid hM2
      have HT2 := Lib.hid (show Turn S w wc from (Turn.of_below HB1.out).trans htu (fun _ hk => .inl hk))
      have HS2 := Lib.hid (show ∀ k, S1 k → S k ∨ (w.heap.size ≤ k ∧ k < wc.heap.size) from fun k hk => (hsu k hk).imp id (fun h => ⟨Nat.le_trans HB1.out.size h.1, h.2⟩))
      have HA2 := Lib.hid hna
      have HX2 := Lib.hid (show base ≤ wc.heap.size from Nat.le_trans (Nat.le_trans HX.out.2.2 (show w0.heap.size ≤ _ from HZ0.out)) htu.size)
      clear hna htu hsu HM1 HA1 HB1 hM2 e0 e1 e2 e3 e4 e5 e6 e7 e8
      obtain ⟨⟨e0, e1, e2, e3⟩, ⟨e4, e5, e6⟩, ⟨e7, e8⟩⟩ := msg_cells HM2.out
      obtain ⟨L2, hL2, _⟩ := HA2.out.cell
      obtain ⟨_, ⟨c4, _, _, _⟩, _, _⟩ := hL2.cells
      clear hL2
      go_upto_region 3 with (fail)
      go_cut [21] (fun v wx => v = .bool (decide (m.term < y.term)) ∧ Below wc.heap.size wc wx)
      case first =>
        go_big_quiet (fail)
        go_wp2_with fail
        go_meet
        exact ⟨rfl, below_drewN (Below.refl _ _) nq⟩
      case rest =>
        obtain ⟨rfl, hbc⟩ := hcut
        have HM3 := Lib.hid (HM2.out.below hbc HM2.out.lt)
        have HA3 := Lib.hid (HA2.out.on hbc)
        have HT3 := Lib.hid (HT2.out.on hbc)
        have HS3 := Lib.hid (fun k (hk : S1 k) => (HS2.out k hk).imp id (fun h => And.intro h.1 (Nat.lt_of_lt_of_le h.2 hbc.size)))
        have HX3 := Lib.hid (Nat.le_trans HX2.out hbc.size)
        clear hbc HM2 HA2 HT2 HS2 HX2 e0 e1 e2 e3 e4 e5 e6 e7 e8 c4
        obtain ⟨⟨e0, e1, e2, e3⟩, ⟨e4, e5, e6⟩, ⟨e7, e8⟩⟩ := msg_cells HM3.out
        have hrow := HM3.out
        rw [HK.out] at e0
        by_cases ht : m.term < y.term
        · have htd : decide (m.term < y.term) = true := decide_eq_true ht
          have HZ := Lib.hid (show z = answerF y m.f false 0 by rw [HF.out, if_pos ht])
          have HAN := Lib.hid (answer_any base g y m.f false 0 S1 wc HA3.out HX3.out (by rw [HSA.out.2.2.2.1]; have := HX.out.2.1; omega))
          rw [htd]
          clear ht
          go_wp2_with fail
          refine HAN.out.mono ?_
          rintro e w3 ⟨rfl, hm⟩
          have HM4 := Lib.hid (NMoves.trans HT3.out HS3.out hm)
          clear hm
          go_wp2_with fail
          refine bodyPost_ret (results_none rfl _ _ _) rfl ?_
          rw [HZ.out]
          exact ⟨rfl, HM4.out⟩
        · have htd : decide (m.term < y.term) = false := decide_eq_false ht
          have HZ1 := Lib.hid (show z = if y.role = 3 then y else appendF y m by rw [HF.out, if_neg ht])
          obtain ⟨L3, hL3, _⟩ := HA3.out.cell
          obtain ⟨_, _, ⟨c8, _, _, _⟩, _⟩ := hL3.cells
          rw [htd]
          clear ht hL3
          by_cases hr : y.role = 3
          · have HZ := Lib.hid (show z = y by rw [HZ1.out, if_pos hr])
            have hr2 : (y.role != 3) = false := by simp [hr]
            clear hr
            go_wp2_with fail
            go_end0
            rw [HZ.out]
            exact ⟨rfl, NMoves.trans HT3.out HS3.out (NMoves.same HA3.out)⟩
          · have HZ := Lib.hid (show z = appendF y m by rw [HZ1.out, if_neg hr])
            have hr2 : (y.role != 3) = true := bne_iff_ne.2 hr
            have HTO := Lib.hid (takeAppend_any base g y m A n c S1 wc HA3.out (Sees.below HES.out (HT3.out.below HV.out.2.2.2.2.2.2.2 HBS.out)) HV.out.1 HV.out.2.1 HV.out.2.2.1 (by rw [HSA.out.2.1]; exact HV.out.2.2.2.1) (by rw [HSA.out.2.2.1]; exact HX.out.1) HV.out.2.2.2.2.1 HV.out.2.2.2.2.2.1 (by rw [HFC.out]; exact HV.out.2.2.2.2.2.2.1) HX3.out (by rw [HSA.out.2.2.2.1]; exact HX.out.2.1))
            rw [HK.out] at HTO
            clear hr
            go_wp2_with fail
            refine HTO.out.mono ?_
            rintro e w3 ⟨rfl, hm⟩
            have HM4 := Lib.hid (NMoves.trans HT3.out HS3.out hm)
            clear hm
            go_wp2_with fail
            go_end0
            rw [HZ.out]
            exact ⟨rfl, HM4.out⟩
end Go.Proofs.Ytlggkeoihpcdiaa

/- The walks of package raft's Step, of an Append, of a question ahead of a vote, and of what doesn't count. -/
namespace Go.Proofs.Ytlggkeoihpcdiaa
open Go.RowKit

set_option maxRecDepth 100000 in
set_option maxHeartbeats 1600000 in
/-- (*raft.Node).Step, of an Append -/
theorem step5_any (base g : Nat) (x : NodeM) (m : MsgM) (hk3 : m.k = 5) (A : Option Addr) (n c : Nat) (S : Nat → Prop) (w : World) (h : NodeAt w base g x S) (hn0 : 0 < x.n) (hn7 : x.n ≤ 7) (hs : Ents w base A m.es) (hln : m.es.length = n) (hnc : n ≤ c) (hmi0 : -9223372036854775808 ≤ m.i) (hmi1 : m.i ≤ 9223372036854775807) (hc0 : 0 ≤ x.commit) (hl : x.log.length ≤ 1048000) (hB : base ≤ w.heap.size) (ho : x.out.length ≤ 999990) :
    Calls Try.prog 30 #[.pointer (some ⟨g, 0, none⟩), .agg #[.int .i64 m.k, .int .i64 m.f, .int .i64 m.t, .int .i64 m.term, .int .i64 m.i, .int .i64 m.lt, .int .i64 m.c, .bool m.yes, .slice A n c]] w fun e w' => e = .returned (.tuple #[]) ∧ NMoves w base g S (step5F x m) w' := by
  have hM := Blk.new w 61 #[.int .i64 m.k, .int .i64 m.f, .int .i64 m.t, .int .i64 m.term, .int .i64 m.i, .int .i64 m.lt, .int .i64 m.c, .bool m.yes, .slice A n c]
  have hb0 := (Below.refl w.heap.size w).alloc (Nat.le_refl _) (.cells #[.int .i64 m.k, .int .i64 m.f, .int .i64 m.t, .int .i64 m.term, .int .i64 m.i, .int .i64 m.lt, .int .i64 m.c, .bool m.yes, .slice A n c] 61)
  have HA := Lib.hid (h.on hb0)
  have HM := Lib.hid hM
  have HB0 := Lib.hid hb0
  have HX := Lib.hid (And.intro hl (And.intro ho (Nat.le_trans hB hb0.size)))
  have HV := Lib.hid (And.intro hln (And.intro hnc (And.intro hmi0 (And.intro hmi1 (And.intro hc0 hB)))))
  have HES := Lib.hid hs
  have HBS := Lib.hid (show ∀ k, S k → base ≤ k from fun k hk => h.base_has _ hk)
  have HNN := Lib.hid (And.intro hn0 hn7)
  clear hnc hmi0 hmi1 hc0
  have HK := Lib.hid hk3
  have HF := Lib.hid (show step5F x m = if countsF x m then ofTerm5F x m else x from rfl)
  have HMA := Lib.hid (made_any base g x S _ (h.on hb0) hn0)
  have HCO := Lib.hid (counts_any base g x m A n c S _ (h.on hb0) hn0 hn7 (Sees.on (Sees.more hs hB) hb0) hln)
  generalize step5F x m = z at *
  generalize hcc : countsF x m = cc at *
  clear h hM hb0 hl ho hB hk3 hn0 hn7 hs hln
  go_enter Try.func30, Try.ntmps30
  go_upto_region 1 with (fail)
  generalize w.alloc (.cells #[.int .i64 m.k, .int .i64 m.f, .int .i64 m.t, .int .i64 m.term, .int .i64 m.i, .int .i64 m.lt, .int .i64 m.c, .bool m.yes, .slice A n c] 61) = w0 at *
  obtain ⟨⟨e0, e1, e2, e3⟩, ⟨e4, e5, e6⟩, ⟨e7, e8⟩⟩ := msg_cells HM.out
  have hrow := HM.out
  go_wp2_with fail
  refine HMA.out.mono ?_
  rintro e w2 ⟨rfl, rfl⟩
  go_wp2_with fail
  refine HCO.out.mono ?_
  rintro e w3 ⟨rfl, hb3⟩
  have HM3 := Lib.hid (HM.out.below hb3 HM.out.lt)
  have HA3 := Lib.hid (HA.out.on hb3)
  have HB3 := Lib.hid (bthen HB0.out hb3)
  have HX3 := Lib.hid (Nat.le_trans HX.out.2.2 hb3.size)
  clear e0 e1 e2 e3 e4 e5 e6 e7 e8 hrow hb3 HM HA HB0 HMA HCO
  have HT3 := Lib.hid (Turn.of_below (S := S) HB3.out)
  cases cc
  · have HZ := Lib.hid (show z = x by rw [HF.out]; rfl)
    go_wp2_with fail
    refine bodyPost_ret (results_none rfl _ _ _) rfl ?_
    rw [HZ.out]
    exact ⟨rfl, NMoves.trans HT3.out (fun _ hk => .inl hk) (NMoves.same HA3.out)⟩
  · have HZ := Lib.hid (show z = ofTerm5F x m by rw [HF.out]; rfl)
    obtain ⟨⟨e0, e1, e2, e3⟩, ⟨e4, e5, e6⟩, ⟨e7, e8⟩⟩ := msg_cells HM3.out
    have hrow := HM3.out
    obtain ⟨q1, q2, q3, q4, q5, q6, q7⟩ := counts_true hcc
    have HTA := Lib.hid (ofTerm5_any base g x m HK.out A n c S w3 HA3.out (Sees.below HES.out (HT3.out.below HV.out.2.2.2.2.2 HBS.out)) HV.out.1 HV.out.2.1 (by have := HV.out.1; omega) HNN.out.1 HV.out.2.2.1 HV.out.2.2.2.1 HV.out.2.2.2.2.1 (by have := HX.out; omega) HX3.out (by have := HX.out; omega))
    clear q1 q2 q3 q4 q5 q6 q7
    rw [HK.out] at HTA e0
    go_wp2_with fail
    refine HTA.out.mono ?_
    rintro e w4 ⟨rfl, hm⟩
    have HM4 := Lib.hid (NMoves.trans HT3.out (fun _ hk => .inl hk) hm)
    clear hm
    go_wp2_with fail
    go_end0
    rw [HZ.out]
    exact ⟨rfl, HM4.out⟩

set_option maxRecDepth 100000 in
set_option maxHeartbeats 1600000 in
/-- (*raft.Node).Step, of a question ahead of a vote -/
theorem step1_any (base g : Nat) (x : NodeM) (m : MsgM) (hk3 : m.k = 1) (A : Option Addr) (n c : Nat) (S : Nat → Prop) (w : World) (h : NodeAt w base g x S) (hn0 : 0 < x.n) (hn7 : x.n ≤ 7) (hs : Ents w base A m.es) (hln : m.es.length = n) (hl : x.log.length ≤ 1048000) (hB : base ≤ w.heap.size) (ho : x.out.length ≤ 999990) :
    Calls Try.prog 30 #[.pointer (some ⟨g, 0, none⟩), .agg #[.int .i64 m.k, .int .i64 m.f, .int .i64 m.t, .int .i64 m.term, .int .i64 m.i, .int .i64 m.lt, .int .i64 m.c, .bool m.yes, .slice A n c]] w fun e w' => e = .returned (.tuple #[]) ∧ NMoves w base g S (step1F x m) w' := by
  have hM := Blk.new w 61 #[.int .i64 m.k, .int .i64 m.f, .int .i64 m.t, .int .i64 m.term, .int .i64 m.i, .int .i64 m.lt, .int .i64 m.c, .bool m.yes, .slice A n c]
  have hb0 := (Below.refl w.heap.size w).alloc (Nat.le_refl _) (.cells #[.int .i64 m.k, .int .i64 m.f, .int .i64 m.t, .int .i64 m.term, .int .i64 m.i, .int .i64 m.lt, .int .i64 m.c, .bool m.yes, .slice A n c] 61)
  have HA := Lib.hid (h.on hb0)
  have HM := Lib.hid hM
  have HB0 := Lib.hid hb0
  have HX := Lib.hid (And.intro hl (And.intro ho (Nat.le_trans hB hb0.size)))
  have HNN := Lib.hid (And.intro hn0 hn7)
  have HK := Lib.hid hk3
  have HF := Lib.hid (show step1F x m = if countsF x m then askPreF x m else x from rfl)
  have HMA := Lib.hid (made_any base g x S _ (h.on hb0) hn0)
  have HCO := Lib.hid (counts_any base g x m A n c S _ (h.on hb0) hn0 hn7 (Sees.on (Sees.more hs hB) hb0) hln)
  generalize step1F x m = z at *
  generalize hcc : countsF x m = cc at *
  clear h hM hb0 hl ho hB hk3 hn0 hn7 hs hln
  go_enter Try.func30, Try.ntmps30
  go_upto_region 1 with (fail)
  generalize w.alloc (.cells #[.int .i64 m.k, .int .i64 m.f, .int .i64 m.t, .int .i64 m.term, .int .i64 m.i, .int .i64 m.lt, .int .i64 m.c, .bool m.yes, .slice A n c] 61) = w0 at *
  obtain ⟨⟨e0, e1, e2, e3⟩, ⟨e4, e5, e6⟩, ⟨e7, e8⟩⟩ := msg_cells HM.out
  have hrow := HM.out
  go_wp2_with fail
  refine HMA.out.mono ?_
  rintro e w2 ⟨rfl, rfl⟩
  go_wp2_with fail
  refine HCO.out.mono ?_
  rintro e w3 ⟨rfl, hb3⟩
  have HM3 := Lib.hid (HM.out.below hb3 HM.out.lt)
  have HA3 := Lib.hid (HA.out.on hb3)
  have HB3 := Lib.hid (bthen HB0.out hb3)
  have HX3 := Lib.hid (Nat.le_trans HX.out.2.2 hb3.size)
  clear e0 e1 e2 e3 e4 e5 e6 e7 e8 hrow hb3 HM HA HB0 HMA HCO
  have HT3 := Lib.hid (Turn.of_below (S := S) HB3.out)
  cases cc
  · have HZ := Lib.hid (show z = x by rw [HF.out]; rfl)
    go_wp2_with fail
    refine bodyPost_ret (results_none rfl _ _ _) rfl ?_
    rw [HZ.out]
    exact ⟨rfl, NMoves.trans HT3.out (fun _ hk => .inl hk) (NMoves.same HA3.out)⟩
  · have HZ := Lib.hid (show z = askPreF x m by rw [HF.out]; rfl)
    obtain ⟨⟨e0, e1, e2, e3⟩, ⟨e4, e5, e6⟩, ⟨e7, e8⟩⟩ := msg_cells HM3.out
    have hrow := HM3.out
    obtain ⟨q1, q2, q3, q4, q5, q6, q7⟩ := counts_true hcc
    have HTA := Lib.hid (takeAskPre_any base g x m A n c S w3 HA3.out (by have := HX.out; omega) HX3.out (by have := HX.out; omega))
    clear q1 q2 q3 q4 q5 q6 q7
    rw [HK.out] at HTA e0
    go_wp2_with fail
    refine HTA.out.mono ?_
    rintro e w4 ⟨rfl, hm⟩
    have HM4 := Lib.hid (NMoves.trans HT3.out (fun _ hk => .inl hk) hm)
    clear hm
    go_wp2_with fail
    go_end0
    rw [HZ.out]
    exact ⟨rfl, HM4.out⟩

theorem counts_kind {x : NodeM} {m : MsgM} (h : ¬ (1 ≤ m.k ∧ m.k ≤ 6)) : countsF x m = false := by
  unfold countsF okKind
  have h1 : (decide (1 ≤ m.k) && decide (m.k ≤ 6)) = false := by
    rw [Bool.and_eq_false_iff, decide_eq_false_iff_not, decide_eq_false_iff_not]
    omega
  rw [h1]
  simp
set_option maxRecDepth 100000 in
set_option maxHeartbeats 800000 in
/-- (*raft.Node).Step, of a message that doesn't count -/
theorem step0_any (base g : Nat) (x : NodeM) (m : MsgM) (hk3 : ¬ (1 ≤ m.k ∧ m.k ≤ 6)) (A : Option Addr) (n c : Nat) (S : Nat → Prop) (w : World) (h : NodeAt w base g x S) (hn0 : 0 < x.n) (hn7 : x.n ≤ 7) (hs : Ents w w.heap.size A m.es) (hln : m.es.length = n) :
    Calls Try.prog 30 #[.pointer (some ⟨g, 0, none⟩), .agg #[.int .i64 m.k, .int .i64 m.f, .int .i64 m.t, .int .i64 m.term, .int .i64 m.i, .int .i64 m.lt, .int .i64 m.c, .bool m.yes, .slice A n c]] w fun e w' => e = .returned (.tuple #[]) ∧ NMoves w base g S x w' := by
  have hM := Blk.new w 61 #[.int .i64 m.k, .int .i64 m.f, .int .i64 m.t, .int .i64 m.term, .int .i64 m.i, .int .i64 m.lt, .int .i64 m.c, .bool m.yes, .slice A n c]
  have hb0 := (Below.refl w.heap.size w).alloc (Nat.le_refl _) (.cells #[.int .i64 m.k, .int .i64 m.f, .int .i64 m.t, .int .i64 m.term, .int .i64 m.i, .int .i64 m.lt, .int .i64 m.c, .bool m.yes, .slice A n c] 61)
  have HA := Lib.hid h
  have HM := Lib.hid hM
  have HB0 := Lib.hid hb0
  have HMA := Lib.hid (made_any base g x S _ (h.on hb0) hn0)
  have hco := counts_any base g x m A n c S _ (h.on hb0) hn0 hn7 (Sees.on hs hb0) hln
  rw [counts_kind hk3] at hco
  have HCO := Lib.hid hco
  clear h hM hb0 hk3 hn0 hn7 hs hln hco
  go_enter Try.func30, Try.ntmps30
  go_upto_region 1 with (fail)
  generalize w.alloc (.cells #[.int .i64 m.k, .int .i64 m.f, .int .i64 m.t, .int .i64 m.term, .int .i64 m.i, .int .i64 m.lt, .int .i64 m.c, .bool m.yes, .slice A n c] 61) = w0 at *
  obtain ⟨⟨e0, e1, e2, e3⟩, ⟨e4, e5, e6⟩, ⟨e7, e8⟩⟩ := msg_cells HM.out
  have hrow := HM.out
  go_wp2_with fail
  refine HMA.out.mono ?_
  rintro e w2 ⟨rfl, rfl⟩
  go_wp2_with fail
  refine HCO.out.mono ?_
  rintro e w3 ⟨rfl, hb3⟩
  have HB3 := Lib.hid (bthen HB0.out hb3)
  clear e0 e1 e2 e3 e4 e5 e6 e7 e8 hrow hb3 HM
  go_wp2_with fail
  refine bodyPost_ret (results_none rfl _ _ _) rfl ?_
  exact ⟨rfl, NMoves.on HA.out HB3.out⟩
end Go.Proofs.Ytlggkeoihpcdiaa
