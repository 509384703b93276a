/- The walk of package raft's takeAskPre. -/
import Derived.BigRegion
import Derived.Test.YtlggkeoihpcdiaaJ22
namespace Go.Proofs.Ytlggkeoihpcdiaa
open Go.RowKit

set_option maxRecDepth 100000 in
set_option maxHeartbeats 1600000 in
/-- (*raft.Node).takeAskPre -/
theorem takeAskPre_any (base g : Nat) (x : NodeM) (m : MsgM) (A : Option Addr) (n c : Nat) (S : Nat → Prop) (w : World) (h : NodeAt w base g x S) (hl : x.log.length ≤ 1048576) (hB : base ≤ w.heap.size) (ho : x.out.length ≤ 1000000) :
    Calls Try.prog 57 #[.pointer (some ⟨g, 0, none⟩), .agg #[.int .i64 m.k, .int .i64 m.f, .int .i64 m.t, .int .i64 m.term, .int .i64 m.i, .int .i64 m.lt, .int .i64 m.c, .bool m.yes, .slice A n c]] w fun e w' => e = .returned (.tuple #[]) ∧ NMoves w base g S (askPreF x m) w' := by
  obtain ⟨L, hL, hS⟩ := h.cell
  have hM := Blk.new w 61 #[.int .i64 m.k, .int .i64 m.f, .int .i64 m.t, .int .i64 m.term, .int .i64 m.i, .int .i64 m.lt, .int .i64 m.c, .bool m.yes, .slice A n c]
  have hb0 := (Below.refl w.heap.size w).alloc (Nat.le_refl _) (.cells #[.int .i64 m.k, .int .i64 m.f, .int .i64 m.t, .int .i64 m.term, .int .i64 m.i, .int .i64 m.lt, .int .i64 m.c, .bool m.yes, .slice A n c] 61)
  have HL := Lib.hid (hL.on hb0)
  have HM := Lib.hid hM
  have HB0 := Lib.hid hb0
  have HS := Lib.hid hS
  have HX := Lib.hid (And.intro hl (And.intro ho (Nat.le_trans hB hb0.size)))
  clear hL h hM hb0 hS hl ho hB
  have HF := Lib.hid (show askPreF x m = tellF x ⟨2, 0, m.f, if preOk x m then m.term else x.term, 0, 0, 0, preOk x m, []⟩ from rfl)
  have HOK := Lib.hid (show preOk x m = ((((!decide (x.role = 3)) && (decide (x.leader = -1) || decide (x.el ≤ x.since))) && decide (x.term < m.term)) && youngF x.log m.i m.lt) from rfl)
  generalize preOk x m = ok at *
  generalize askPreF x m = z at *
  obtain ⟨fr, hfr⟩ : ∃ fr, ((!decide (x.role = 3)) && (decide (x.leader = -1) || decide (x.el ≤ x.since))) = fr := ⟨_, rfl⟩
  have hok := HOK.out
  rw [hfr] at hok
  have HFR := Lib.hid hfr
  have HOK := Lib.hid hok
  clear hfr hok
  go_enter Try.func57, Try.ntmps57
  go_upto_region 1 with (fail)
  generalize w.alloc (.cells #[.int .i64 m.k, .int .i64 m.f, .int .i64 m.t, .int .i64 m.term, .int .i64 m.i, .int .i64 m.lt, .int .i64 m.c, .bool m.yes, .slice A n c] 61) = w0 at *
  obtain ⟨⟨e0, e1, e2, e3⟩, ⟨e4, e5, e6⟩, ⟨e7, e8⟩⟩ := msg_cells HM.out
  obtain ⟨⟨c0, c1, c2, c3⟩, ⟨c4, c5, c6, c7⟩, ⟨c8, c9, c10, c11⟩, ⟨c12, c13, c14, c15, c16⟩⟩ := HL.out.cells
  go_cut [4] (fun v wx => v = .bool fr ∧ Below w0.heap.size w0 wx)
  case first =>
    by_cases h1 : x.role = 3
    · have q1 : (x.role != 3) = false := by simp [h1]
      have hv0 : fr = false := by rw [← HFR.out, decide_eq_true h1]; rfl
      subst hv0
      clear h1
      go_big_quiet (fail)
      go_wp2_with fail
      go_meet
      exact ⟨rfl, below_drewN (Below.refl _ _) nq⟩
    · have q1 : (x.role != 3) = true := bne_iff_ne.2 h1
      by_cases h2 : x.leader = -1
      · have q2 : (x.leader == -1) = true := by simp [h2]
        have hv0 : fr = true := by rw [← HFR.out, decide_eq_false h1, decide_eq_true h2]; rfl
        subst hv0
        clear h1 h2
        go_big_quiet (fail)
        go_wp2_with fail
        go_meet
        exact ⟨rfl, below_drewN (Below.refl _ _) nq⟩
      · have q2 : (x.leader == -1) = false := by rw [beq_eq_false_iff_ne]; exact h2
        by_cases h3 : x.el ≤ x.since
        · have hv0 : fr = true := by rw [← HFR.out, decide_eq_false h1, decide_eq_true h3]; simp
          subst hv0
          have q3 : decide (x.el ≤ x.since) = true := decide_eq_true h3
          clear h1 h2
          go_big_quiet (fail)
          go_wp2_with fail
          go_meet
          exact ⟨rfl, below_drewN (Below.refl _ _) nq⟩
        · have hv0 : fr = false := by rw [← HFR.out, decide_eq_false h1, decide_eq_false h2, decide_eq_false h3]; rfl
          subst hv0
          have q3 : decide (x.el ≤ x.since) = false := decide_eq_false h3
          clear h1 h2
          go_big_quiet (fail)
          go_wp2_with fail
          go_meet
          exact ⟨rfl, below_drewN (Below.refl _ _) nq⟩
  case rest =>
    obtain ⟨rfl, hbc⟩ := hcut
    have HL1 := Lib.hid (HL.out.on hbc)
    have HM1 := Lib.hid (HM.out.below hbc HM.out.lt)
    have HB1 := Lib.hid (bthen HB0.out hbc)
    have HX1 := Lib.hid (show base ≤ wc.heap.size from Nat.le_trans HX.out.2.2 hbc.size)
    clear hbc HL HM HB0 e0 e1 e2 e3 e4 e5 e6 e7 e8 c0 c1 c2 c3 c4 c5 c6 c7 c8 c9 c10 c11 c12 c13 c14 c15 c16
    obtain ⟨⟨e0, e1, e2, e3⟩, ⟨e4, e5, e6⟩, ⟨e7, e8⟩⟩ := msg_cells HM1.out
    obtain ⟨_, ⟨c4, c5, c6, c7⟩, _, _⟩ := HL1.out.cells
    go_upto_region 2 with (fail)
    go_cut [48] (fun v wx => v = .bool ok ∧ Below wc.heap.size wc wx)
    case first =>
      cases fr
      · have hv0 : ok = false := by rw [HOK.out]; rfl
        subst hv0
        go_big_quiet (fail)
        go_wp2_with fail
        go_meet
        exact ⟨rfl, below_drewN (Below.refl _ _) nq⟩
      · by_cases h3 : x.term < m.term
        · have q3 : decide (x.term < m.term) = true := decide_eq_true h3
          have hv0 : ok = youngF x.log m.i m.lt := by rw [HOK.out, decide_eq_true h3]; simp
          have HY := Lib.hid (fun W (hW : Below wc.heap.size wc W) => lYounger_any base L.gl L.fl x.log m.i m.lt W (HL1.out.on hW).log (by have := HX.out; omega))
          rw [← hv0] at HY
          clear hv0
          go_big_quiet (first | (go_at_call 82; refine Calls.quiet_of_same (HY.out _ (below_drewN (Below.refl _ _) _))))
          go_wp2_with fail
          go_meet
          exact ⟨rfl, below_drewN (Below.refl _ _) nq⟩
        · have q3 : decide (x.term < m.term) = false := decide_eq_false h3
          have hv0 : ok = false := by rw [HOK.out, decide_eq_false h3]; simp
          subst hv0
          go_big_quiet (fail)
          go_wp2_with fail
          go_meet
          exact ⟨rfl, below_drewN (Below.refl _ _) nq⟩
    case rest =>
      obtain ⟨rfl, hbc⟩ := hcut
      have HT3 := Lib.hid (Turn.of_below (S := S) (bthen HB1.out hbc))
      have HL2 := Lib.hid (HL1.out.on hbc)
      have hM3 := HM1.out.below hbc HM1.out.lt
      have HX2 := Lib.hid (show base ≤ wc.heap.size from Nat.le_trans HX1.out hbc.size)
      clear hbc HL1 HM1 HB1 HX1 e0 e1 e2 e3 e4 e5 e6 e7 e8 c4 c5 c6 c7
      obtain ⟨⟨e0, e1, e2, e3⟩, ⟨e4, e5, e6⟩, ⟨e7, e8⟩⟩ := msg_cells hM3
      obtain ⟨_, ⟨c4, _, _, _⟩, _, _⟩ := HL2.out.cells
      have HTE := Lib.hid (fun W (hW : Below wc.heap.size wc W) => tell_any base g x ⟨2, 0, m.f, if ok then m.term else x.term, 0, 0, 0, ok, []⟩ none 0 0 S W (show NodeAt W base g x S from ⟨L, HL2.out.on hW, HS.out⟩) rfl (FreeN.nil _ _ _ _) (fun k hk => by simp [foot] at hk) (Nat.le_trans HX2.out hW.size) (by have := HX.out; omega))
      clear hM3 HL2
      cases ok
      · go_upto_region 4 with (fail)
        go_region_with (refine (HTE.out _ (by first | exact (Below.refl _ _).drew | exact Below.refl _ _)).mono ?_; rintro e w5 ⟨rfl, hm⟩)
        all_goals
          go_wp2_with fail
          go_end0
          rw [HF.out]
          first
            | exact ⟨rfl, NMoves.trans HT3.out (fun _ hk => .inl hk) hm⟩
            | exact ⟨rfl, NMoves.trans (HT3.out.on (Below.refl _ _).drew) (fun _ hk => .inl hk) hm⟩
      · go_wp2_with fail
        refine (HTE.out _ (Below.refl _ _)).mono ?_
        rintro e w5 ⟨rfl, hm⟩
        have HM5 := Lib.hid hm
        clear hm
        go_wp2_with fail
        refine bodyPost_ret (results_none rfl _ _ _) rfl ?_
        rw [HF.out]
        exact ⟨rfl, NMoves.trans HT3.out (fun _ hk => .inl hk) HM5.out⟩
end Go.Proofs.Ytlggkeoihpcdiaa
