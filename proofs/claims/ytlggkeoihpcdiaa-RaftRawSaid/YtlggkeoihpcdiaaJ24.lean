/- The walk of package raft's takeAppend. -/
import Derived.Deep.RegionHeld3
import Derived.Test.YtlggkeoihpcdiaaJ22
import Derived.Test.YtlggkeoihpcdiaaJ23
namespace Go.Proofs.Ytlggkeoihpcdiaa
open Go.RowKit

theorem unsavedF_rest (x : NodeM) (i : Int) : (unsavedF x i).commit = x.commit ∧ (unsavedF x i).id = x.id ∧ (unsavedF x i).out = x.out := by
  unfold unsavedF
  split <;> exact ⟨rfl, rfl, rfl⟩
/-- where the entries change, blocks of other types stay -/
theorem log_keeps {wc wx : World} {base g k : Nat} {x : NodeM} {L : NodeL} {es : List Ent} {t : TypeId} {cs : Array Value} (h : NodeR wc base g x L) (hm : LogMoves wc base L.gl L.fl es wx) (hb : Blk wc k t cs) (h1 : 131 ≠ t) (h2 : 73 ≠ t) : Blk wx k t cs := by
  obtain ⟨f', hl, hmv, hf⟩ := hm
  obtain ⟨Al, cl, hlb, _⟩ := h.log
  refine (hmv.block k hb.lt (hb.apart hlb (Ne.symm h1)) (fun e => ?_)).trans hb
  obtain ⟨_, cur, hB⟩ := h.log.foot_at k e.symm
  exact hb.apart hB (Ne.symm h2) rfl
/-- a draw ahead of it is no change -/
theorem LogMoves.undrew {W wc wx : World} {base gl : Nat} {fl : Option Nat} {es : List Ent} (hm : LogMoves W base gl fl es wx) (h1 : W.os = wc.os) (h2 : W.tape = wc.tape) (h3 : W.output = wc.output) (h4 : W.heap = wc.heap) : LogMoves wc base gl fl es wx := by
  obtain ⟨f', hl, hmv, hf⟩ := hm
  exact ⟨f', hl, ⟨hmv.os.trans h1, hmv.tape.trans h2, hmv.output.trans h3, by rw [← h4]; exact hmv.size, fun k hk n1 n2 => by rw [← h4]; exact hmv.block k (by rw [h4]; exact hk) n1 n2⟩, by rw [← h4]; exact hf⟩
set_option maxRecDepth 100000 in
set_option maxHeartbeats 6400000 in
/-- (*raft.Node).takeAppend -/
theorem takeAppend_any (base g : Nat) (x : NodeM) (m : MsgM) (A : Option Addr) (n c : Nat) (S : Nat → Prop) (w : World) (h : NodeAt w base g x S) (hs : Ents w base A m.es) (hln : m.es.length = n) (hnc : n ≤ c) (hn8 : n ≤ 8) (hn0 : 0 < x.n) (hl : x.log.length ≤ 1048000) (hmi0 : -9223372036854775808 ≤ m.i) (hmi1 : m.i ≤ 9223372036854775807) (hc0 : 0 ≤ x.commit) (hB : base ≤ w.heap.size) (ho : x.out.length ≤ 999990) :
    Calls Try.prog 86 #[.pointer (some ⟨g, 0, none⟩), .agg #[.int .i64 m.k, .int .i64 m.f, .int .i64 m.t, .int .i64 m.term, .int .i64 m.i, .int .i64 m.lt, .int .i64 m.c, .bool m.yes, .slice A n c]] w fun e w' => e = .returned (.tuple #[]) ∧ NMoves w base g S (appendF x m) w' := by
  have hM := Blk.new w 61 #[.int .i64 m.k, .int .i64 m.f, .int .i64 m.t, .int .i64 m.term, .int .i64 m.i, .int .i64 m.lt, .int .i64 m.c, .bool m.yes, .slice A n c]
  have hb0 := (Below.refl w.heap.size w).alloc (Nat.le_refl _) (.cells #[.int .i64 m.k, .int .i64 m.f, .int .i64 m.t, .int .i64 m.term, .int .i64 m.i, .int .i64 m.lt, .int .i64 m.c, .bool m.yes, .slice A n c] 61)
  have HES := Lib.hid (Sees.below hs (hb0.mono hB))
  have HA := Lib.hid (h.on hb0)
  have HM := Lib.hid hM
  have HB0 := Lib.hid hb0
  have HNS := Lib.hid (show ∀ k, S k → k < w.heap.size from fun k hk => h.has_lt _ hk)
  have HBS := Lib.hid (show ∀ k, S k → base ≤ k from fun k hk => h.base_has _ hk)
  have HZ0 := Lib.hid (show w.heap.size < (w.alloc (.cells #[.int .i64 m.k, .int .i64 m.f, .int .i64 m.t, .int .i64 m.term, .int .i64 m.i, .int .i64 m.lt, .int .i64 m.c, .bool m.yes, .slice A n c] 61)).heap.size by simp)
  obtain ⟨es, a, q, hP⟩ : ∃ es a q, putF x.log m.i m.lt m.es = (es, a, q) := ⟨_, _, _, rfl⟩
  have hF : appendF x m = if m.i < x.commit then answerF (ledF x m.f) m.f true x.commit else if q ≠ 0 then answerF (ledF x m.f) m.f false (max (min (x.log.length : Int) (m.i - 1)) 0) else answerF { unsavedF { ledF x m.f with log := es } a with commit := max x.commit (min m.c (m.i + (n : Int))) } m.f true (m.i + (n : Int)) := by
    unfold appendF
    rw [hP, hln]
  have HF := Lib.hid hF
  have HP := Lib.hid hP
  have HX := Lib.hid (And.intro hl (And.intro ho (And.intro hn0 (And.intro hn8 (And.intro hmi0 (And.intro hmi1 (And.intro hc0 (And.intro hnc (And.intro hln (Nat.le_trans hB hb0.size))))))))))
  have hfo := fun W (hW : Below (w.alloc (.cells #[.int .i64 m.k, .int .i64 m.f, .int .i64 m.t, .int .i64 m.term, .int .i64 m.i, .int .i64 m.lt, .int .i64 m.c, .bool m.yes, .slice A n c] 61)).heap.size (w.alloc (.cells #[.int .i64 m.k, .int .i64 m.f, .int .i64 m.t, .int .i64 m.term, .int .i64 m.i, .int .i64 m.lt, .int .i64 m.c, .bool m.yes, .slice A n c] 61)) W) => follow_any base g x x.term m.f S W (HA.out.on hW)
  rw [show followF x x.term m.f = { x with role := 0, leader := m.f } by unfold followF; rw [if_neg (by omega)]] at hfo
  have HFO := Lib.hid hfo
  obtain ⟨L0, hL0, _⟩ := HA.out.cell
  obtain ⟨_, ⟨c4, _, _, _⟩, _, _⟩ := hL0.cells
  generalize appendF x m = z at *
  clear hM hb0 h hs hln hnc hn8 hn0 hl hmi0 hmi1 hc0 hB ho hP hF hfo hL0
  go_enter Try.func86, Try.ntmps86
  go_upto_region 1 with (fail)
  generalize w.alloc (.cells #[.int .i64 m.k, .int .i64 m.f, .int .i64 m.t, .int .i64 m.term, .int .i64 m.i, .int .i64 m.lt, .int .i64 m.c, .bool m.yes, .slice A n c] 61) = w0 at *
  obtain ⟨⟨e0, e1, e2, e3⟩, ⟨e4, e5, e6⟩, ⟨e7, e8⟩⟩ := msg_cells HM.out
  go_cut [] (fun wx => NMoves w0 base g S { x with role := 0, leader := m.f } wx)
  case first => as_aux_lemma =>
    go_region_with (refine (HFO.out _ (by first | exact (Below.refl _ _).drew | exact Below.refl _ _)).mono ?_; rintro e w3 ⟨rfl, hm⟩)
    all_goals
      go_wp2_with fail
      go_meet
      first
        | exact hm
        | exact NMoves.trans ((Turn.refl S w0).on (Below.refl _ _).drew) (fun _ hk => .inl hk) hm
  case rest =>
    obtain ⟨S1, hna, htu, hsu⟩ := hcut
    have hM2 := htu.blk HM.out (fun hk => by have := HNS.out _ hk; omega)
    have hes2 := Sees.below HES.out (htu.below HX.out.2.2.2.2.2.2.2.2.2 HBS.out)
    obtain ⟨L1, hL1, hS1⟩ := hna
    obtain ⟨_, _, ⟨_, _, c10, _⟩, _⟩ := hL1.cells
    have f10 := hL1.blk.frozen 10
    have hset := hL1.set 10 (.int .i64 0) (x' := ledF x m.f) rfl rfl rfl rfl
    have hts := htu.set_ HA.out.own 10 (.int .i64 0)
    have hM3 := hM2.far (p := ⟨g, 10, none⟩) (by have := HA.out.lt; have := HNS.out _ HA.out.own.1; simp only; omega) (.int .i64 0)
    have hes3 := Sees.below hes2 ((Below.refl base wc).setCell (p := ⟨g, 10, none⟩) hL1.base_le (.int .i64 0))
    have hsz : (wc.setCell ⟨g, 10, none⟩ (.int .i64 0)).heap.size = wc.heap.size := by simp [World.setCell]
    have HS1 := Lib.hid (show ∀ k, S1 k → S k ∨ (w.heap.size < k ∧ k < (wc.setCell ⟨g, 10, none⟩ (.int .i64 0)).heap.size) from fun k hk => (hsu k hk).imp id (fun h9 => ⟨by have := HZ0.out; omega, by rw [hsz]; exact h9.2⟩))
    have HLS := Lib.hid hS1
    have HN := Lib.hid hset
    have HT := Lib.hid (show Turn S w _ from (Turn.of_below HB0.out).trans hts (fun _ hk => .inl hk))
    have HM3 := Lib.hid hM3
    have HE3 := Lib.hid hes3
    have HX3 := Lib.hid (show base ≤ (wc.setCell ⟨g, 10, none⟩ (.int .i64 0)).heap.size by rw [hsz]; exact Nat.le_trans HX.out.2.2.2.2.2.2.2.2.2 htu.size)
    clear hM2 hes2 hL1 hset hts hM3 hes3 hsz hsu htu hS1 e0 e1 e2 e3 e4 e5 e6 e7 e8 c4 HES HA HM HB0 HFO
    go_upto_region 3 with (fail)
    generalize wc.setCell ⟨g, 10, none⟩ (.int .i64 0) = w2 at *
    obtain ⟨⟨e0, e1, e2, e3⟩, ⟨e4, e5, e6⟩, ⟨e7, e8⟩⟩ := msg_cells HM3.out
    obtain ⟨_, ⟨_, _, _, c7⟩, _, _⟩ := HN.out.cells
    have c7' : w2.cell? ⟨g, 7, none⟩ = some (.int .i64 x.commit) := c7
    clear c7 c10 f10
    go_cut [24] (fun v wx => v = .bool (decide (m.i < x.commit)) ∧ Below w2.heap.size w2 wx)
    case first => as_aux_lemma =>
      go_big_quiet (fail)
      go_wp2_with fail
      go_meet
      exact ⟨rfl, below_drewN (Below.refl _ _) nq⟩
    case rest =>
      obtain ⟨rfl, hbc⟩ := hcut
      have HN4 := Lib.hid (HN.out.on hbc)
      have HM4 := Lib.hid (HM3.out.below hbc HM3.out.lt)
      have HT4 := Lib.hid (HT.out.on hbc)
      have HE4 := Lib.hid (Sees.below HE3.out (hbc.mono HX3.out))
      have HX4 := Lib.hid (Nat.le_trans HX3.out hbc.size)
      have HS4 := Lib.hid (show ∀ k, S1 k → S k ∨ (w.heap.size < k ∧ k < wc.heap.size) from fun k hk => (HS1.out k hk).imp id (fun h9 => ⟨h9.1, Nat.lt_of_lt_of_le h9.2 hbc.size⟩))
      have HA4 := Lib.hid (show NodeAt wc base g (ledF x m.f) S1 from ⟨L1, HN4.out, HLS.out⟩)
      clear hbc HN HM3 HT HE3 HX3 HS1 e0 e1 e2 e3 e4 e5 e6 e7 e8 c7'
      obtain ⟨⟨e0, e1, e2, e3⟩, ⟨e4, e5, e6⟩, ⟨e7, e8⟩⟩ := msg_cells HM4.out
      obtain ⟨_, ⟨_, _, c6, c7⟩, _, _⟩ := HN4.out.cells
      have c7' : wc.cell? ⟨g, 7, none⟩ = some (.int .i64 x.commit) := c7
      clear c7
      by_cases hlt : m.i < x.commit
      · as_aux_lemma =>
        have hd : decide (m.i < x.commit) = true := decide_eq_true hlt
        have HZ := Lib.hid (show z = answerF (ledF x m.f) m.f true x.commit by rw [HF.out, if_pos hlt])
        have HAN := Lib.hid (fun W (hW : Below wc.heap.size wc W) => answer_any base g (ledF x m.f) m.f true x.commit S1 W (HA4.out.on hW) (Nat.le_trans HX4.out hW.size) (show x.out.length ≤ 1048576 by have := HX.out.2.1; omega))
        rw [hd]
        clear hlt hd c6 e0 e2 e3 e4 e5 e6 e7 e8
        go_upto_region 4 with (fail)
        go_region_with (refine (HAN.out _ (by first | exact (Below.refl _ _).drew | exact Below.refl _ _)).mono ?_; rintro e w5 ⟨rfl, hm⟩)
        all_goals
          go_wp2_with fail
          refine bodyPost_ret (results_none rfl _ _ _) rfl ?_
          rw [HZ.out]
          first
            | exact ⟨rfl, NMoves.trans HT4.out (fun k hk => (HS4.out k hk).imp id (fun h9 => ⟨Nat.le_of_lt h9.1, h9.2⟩)) hm⟩
            | exact ⟨rfl, NMoves.trans (HT4.out.on (Below.refl _ _).drew) (fun k hk => (HS4.out k hk).imp id (fun h9 => ⟨Nat.le_of_lt h9.1, h9.2⟩)) hm⟩
      · have hd : decide (m.i < x.commit) = false := decide_eq_false hlt
        have HF2 := Lib.hid (show z = if q ≠ 0 then answerF (ledF x m.f) m.f false (max (min (x.log.length : Int) (m.i - 1)) 0) else answerF { unsavedF { ledF x m.f with log := es } a with commit := max x.commit (min m.c (m.i + (n : Int))) } m.f true (m.i + (n : Int)) by rw [HF.out, if_neg hlt])
        have hpu := fun W (hW : Below wc.heap.size wc W) => lPut_any base L1.gl L1.fl x.log m.i m.lt A n c m.es W (HN4.out.on hW).log (by have := HX.out.1; omega) (Sees.more (Sees.below HE4.out (hW.mono HX4.out)) (Nat.le_trans HX4.out hW.size)) HX.out.2.2.2.2.2.2.2.2.1 HX.out.2.2.2.2.2.2.2.1 (by have := HX.out.2.2.2.1; omega) (fun h0 a9 ha9 => by
          obtain ⟨b9, off9, hA9, hb9, _⟩ := Ents.at_ HE4.out (j := 0) (by have := HX.out.2.2.2.2.2.2.2.2.1; omega)
          rw [hA9] at ha9
          injection ha9 with ha9
          subst ha9
          have := HN4.out.log.base_le
          simp only
          omega) (Nat.le_trans HX4.out hW.size)
        rw [HP.out] at hpu
        simp only at hpu
        have hpp : ∀ W, Below wc.heap.size wc W → W.os = wc.os → W.tape = wc.tape → W.output = wc.output → W.heap = wc.heap → Calls Try.prog 106 #[.pointer (some ⟨L1.gl, 0, none⟩), .int .i64 m.i, .int .i64 m.lt, .slice A n c] W fun e w' => e = .returned (.tuple #[.int .i64 a, .int .i64 (q : Int)]) ∧ LogMoves wc base L1.gl L1.fl es w' := fun W hW h1 h2 h3 h4 => (hpu W hW).mono fun e w' h9 => ⟨h9.1, LogMoves.undrew h9.2 h1 h2 h3 h4⟩
        have HPU0 := Lib.hid (hpp wc (Below.refl _ _) rfl rfl rfl rfl)
        have HPU1 := Lib.hid (hpp wc.drew (Below.refl _ _).drew rfl rfl rfl rfl)
        have hkk : ∀ wx, LogMoves wc base L1.gl L1.fl es wx → wx.cell? ⟨g, 6, none⟩ = some (.pointer (some ⟨L1.gl, 0, none⟩)) ∧ wx.cell? ⟨w.heap.size, 4, none⟩ = some (.int .i64 m.i) ∧ wx.cell? ⟨w.heap.size, 5, none⟩ = some (.int .i64 m.lt) ∧ wx.cell? ⟨w.heap.size, 8, none⟩ = some (.slice A n c) := fun wx hmc => by
          obtain ⟨_, ⟨p4, p5, _⟩, ⟨_, p8⟩⟩ := msg_cells (log_keeps HN4.out hmc HM4.out (by decide) (by decide))
          exact ⟨(log_keeps HN4.out hmc HN4.out.blk (by decide) (by decide)).cell 6, p4, p5, p8⟩
        have HKK := Lib.hid hkk
        clear hpp hkk
        have HLT := Lib.hid (show x.commit ≤ m.i by omega)
        rw [hd]
        clear hlt hd hpu c7' HF
        go_upto_region 5 with (fail)
        go_cut [4, 5] (fun v4 v5 wx => v4 = .int .i64 a ∧ v5 = .int .i64 (q : Int) ∧ NMoves wc base g S1 { ledF x m.f with log := es } wx)
        case first => as_aux_lemma =>
          go_region_held3 (fun W => W.cell? ⟨g, 6, none⟩ = some (.pointer (some ⟨L1.gl, 0, none⟩)) ∧ W.cell? ⟨w.heap.size, 4, none⟩ = some (.int .i64 m.i) ∧ W.cell? ⟨w.heap.size, 5, none⟩ = some (.int .i64 m.lt) ∧ W.cell? ⟨w.heap.size, 8, none⟩ = some (.slice A n c)) (exact ⟨c6, e4, e5, e8⟩) (first
            | (go_at_call 106; refine HPU1.out.mono ?_; rintro e wx ⟨rfl, hm⟩; clear c6 e4 e5 e8; obtain ⟨c6, e4, e5, e8⟩ := HKK.out _ hm; have HMC := Lib.hid hm; clear hm))
          all_goals
            go_wp2_with fail
            go_meet
            exact ⟨rfl, rfl, NMoves.logged HN4.out HLS.out HMC.out⟩
        case rest =>
          obtain ⟨rfl, rfl, S2, hna, htu, hsu⟩ := hcut
          have HM5 := Lib.hid (htu.blk HM4.out (fun hk => by
            rcases HS4.out _ hk with h9 | h9
            · have := HNS.out _ h9
              omega
            · omega))
          have HT5 := Lib.hid (HT4.out.trans htu (fun k hk => (HS4.out k hk).imp id (fun h9 => ⟨Nat.le_of_lt h9.1, h9.2⟩)))
          have HS5 := Lib.hid (show ∀ k, S2 k → S k ∨ (w.heap.size ≤ k ∧ k < wc.heap.size) from fun k hk => by
            rcases hsu k hk with h9 | h9
            · exact (HS4.out k h9).imp id (fun h8 => ⟨Nat.le_of_lt h8.1, Nat.lt_of_lt_of_le h8.2 htu.size⟩)
            · exact .inr ⟨Nat.le_trans HT4.out.size h9.1, h9.2⟩)
          have HX5 := Lib.hid (Nat.le_trans HX4.out htu.size)
          have HA5 := Lib.hid hna
          have HNS5 := Lib.hid (show ¬ S2 w.heap.size from fun hk => by
            rcases hsu _ hk with h9 | h9
            · rcases HS4.out _ h9 with h8 | h8
              · have := HNS.out _ h8
                omega
              · omega
            · have := HM4.out.lt
              omega)
          clear hna htu hsu HN4 HM4 HT4 HE4 HX4 HS4 HA4 HPU0 HPU1 HKK e0 e1 e2 e3 e4 e5 e6 e7 e8 c6
          obtain ⟨⟨e0, e1, e2, e3⟩, ⟨e4, e5, e6⟩, ⟨e7, e8⟩⟩ := msg_cells HM5.out
          by_cases hq : q ≠ 0
          · as_aux_lemma =>
            have hq1 : ((q : Int) != 0) = true := by simp; omega
            have hes : es = x.log := by
              have h9 := put_bad (es := x.log) (i := m.i) (t := m.lt) (l := m.es) (by rw [HP.out]; exact hq)
              rw [HP.out] at h9
              exact h9
            subst hes
            have HZ := Lib.hid (show z = answerF (ledF x m.f) m.f false (max (min (x.log.length : Int) (m.i - 1)) 0) by rw [HF2.out, if_pos hq])
            have HLA := Lib.hid (fun W (hW : Below wc.heap.size wc W) => nLast_any base g (ledF x m.f) S2 W (HA5.out.on hW) HX.out.2.2.1 (show x.log.length ≤ 1048576 by have := HX.out.1; omega))
            have HAN := Lib.hid (fun v W (hW : Below wc.heap.size wc W) => answer_any base g (ledF x m.f) m.f false v S2 W (HA5.out.on hW) (Nat.le_trans HX5.out hW.size) (show x.out.length ≤ 1048576 by have := HX.out.2.1; omega))
            have hi0 := HLT.out
            have hc0 := HX.out.2.2.2.2.2.2.1
            have hi1 := HX.out.2.2.2.2.2.1
            have hw1 : IntKind.i64.wrap (m.i - 1) = m.i - 1 := by rw [IntKind.wrap_i64]; omega
            have hw2 : wrap64 (m.i - 1) = m.i - 1 := by unfold wrap64; omega
            have HLA1 := Lib.hid (show Calls Try.prog 33 #[.pointer (some ⟨g, 0, none⟩)] wc.drew fun e w' => e = .returned (.int .i64 (x.log.length : Int)) ∧ w' = wc.drew from HLA.out wc.drew (Below.refl _ _).drew)
            have HKK := Lib.hid (fun wx (hm : ∃ y, NMoves wc.drew base g S2 y wx) => by
              obtain ⟨y, S3, _, ht, _⟩ := hm
              obtain ⟨⟨_, p1, _⟩, ⟨p4, _⟩, _⟩ := msg_cells (ht.blk (show Blk wc.drew w.heap.size 61 _ from HM5.out) HNS5.out)
              exact (⟨p1, p4⟩ : wx.cell? ⟨w.heap.size, 1, none⟩ = some (.int .i64 m.f) ∧ wx.cell? ⟨w.heap.size, 4, none⟩ = some (.int .i64 m.i)))
            have hle0 : ¬ ((x.log.length : Int) < 0) := by omega
            clear hc0 hi1 HLA HF2 HP e0 e2 e3 e5 e6 e7 e8
            go_upto_region 7 with (fail)
            have HAN1 := Lib.hid (HAN.out (max (min (x.log.length : Int) (m.i - 1)) 0) wc.drew (Below.refl _ _).drew)
            clear HAN hle0 hi0
            go_region_held3 (fun W => W.cell? ⟨w.heap.size, 1, none⟩ = some (.int .i64 m.f) ∧ W.cell? ⟨w.heap.size, 4, none⟩ = some (.int .i64 m.i)) (exact ⟨e1, e4⟩) (first
              | (go_at_call 33; refine HLA1.out.mono ?_; rintro e wx ⟨rfl, hwx⟩; subst hwx)
              | (go_at_call 84; refine HAN1.out.mono ?_; rintro e wx ⟨rfl, hm⟩; clear e1 e4; obtain ⟨e1, e4⟩ := HKK.out _ ⟨_, hm⟩; have HMC := Lib.hid hm; clear hm))
            all_goals
              go_wp2_with fail
              refine bodyPost_ret (results_none rfl _ _ _) rfl ?_
              rw [HZ.out]
              exact ⟨rfl, NMoves.trans (HT5.out.on (Below.refl _ _).drew) HS5.out HMC.out⟩
          · obtain rfl : q = 0 := by omega
            have hpi := put_in (es := x.log) (i := m.i) (t := m.lt) (l := m.es) (by rw [HP.out])
            have hl0 := HX.out.1
            have hn8 := HX.out.2.2.2.1
            have HZ := Lib.hid (show z = answerF { unsavedF { ledF x m.f with log := es } a with commit := max x.commit (min m.c (m.i + (n : Int))) } m.f true (m.i + (n : Int)) by rw [HF2.out, if_neg (by simp)])
            have HUN := Lib.hid (unsaved_any base g { ledF x m.f with log := es } a S2 wc HA5.out)
            have HUR := Lib.hid (unsavedF_rest { ledF x m.f with log := es } a)
            have hw1 : IntKind.i64.wrap (m.i + (n : Int)) = m.i + (n : Int) := wr_i64 (by omega) (by omega)
            have hw2 : wrap64 (m.i + (n : Int)) = m.i + (n : Int) := wr_64 (by omega) (by omega)
            generalize unsavedF { ledF x m.f with log := es } a = y3 at *
            clear hq hpi hl0 hn8 HF2 HP
            go_wp2_with fail
            refine HUN.out.mono ?_
            rintro e w6 ⟨rfl, S3, hna, htu, hsu⟩
            have HM6 := Lib.hid (htu.blk HM5.out HNS5.out)
            have HNS6 := Lib.hid (show ¬ S3 w.heap.size from fun hk => by
              rcases hsu _ hk with h9 | h9
              · exact HNS5.out h9
              · have := HM5.out.lt
                omega)
            have HT6 := Lib.hid (HT5.out.trans htu HS5.out)
            have HS6 := Lib.hid (show ∀ k, S3 k → S k ∨ (w.heap.size ≤ k ∧ k < w6.heap.size) from fun k hk => by
              rcases hsu k hk with h9 | h9
              · exact (HS5.out k h9).imp id (fun h8 => ⟨h8.1, Nat.lt_of_lt_of_le h8.2 htu.size⟩)
              · exact .inr ⟨Nat.le_trans HT5.out.size h9.1, h9.2⟩)
            have HX6 := Lib.hid (Nat.le_trans HX5.out htu.size)
            obtain ⟨L6, hL6, hS6⟩ := hna
            have HL6 := Lib.hid hL6
            have HLS6 := Lib.hid hS6
            clear htu hsu hL6 hS6 HM5 HNS5 HT5 HS5 HX5 HA5 HUN e0 e1 e2 e3 e4 e5 e6 e7 e8
            obtain ⟨⟨e0, e1, e2, e3⟩, ⟨e4, e5, e6⟩, ⟨e7, e8⟩⟩ := msg_cells HM6.out
            obtain ⟨_, ⟨_, _, _, c7⟩, _, _⟩ := HL6.out.cells
            rw [HUR.out.1] at c7
            have c7' : w6.cell? ⟨g, 7, none⟩ = some (.int .i64 x.commit) := c7
            have f7 := HL6.out.blk.frozen 7
            clear c7
            go_upto_region 10 with (fail)
            go_cut [] (fun wx => NodeR wx base g { y3 with commit := max x.commit (min m.c (m.i + (n : Int))) } L6 ∧ Turn S3 w6 wx)
            case first => as_aux_lemma =>
              have HSET := Lib.hid (fun (v : Int) (hv : max x.commit (min m.c (m.i + (n : Int))) = v) => (show NodeR (w6.setCell ⟨g, 7, none⟩ (.int .i64 v)) base g { y3 with commit := max x.commit (min m.c (m.i + (n : Int))) } L6 from by rw [hv]; exact HL6.out.set 7 (.int .i64 v) (x' := { y3 with commit := v }) rfl rfl rfl rfl))
              have HTS := Lib.hid (fun (v : Int) => (Turn.refl S3 w6).set_ ⟨(HLS6.out g).2 (.inl rfl), _, HL6.out.blk⟩ 7 (.int .i64 v))
              clear e0 e1 e2 e3 e4 e5 e7 e8 HM6 HT6 HS6 HX6 HZ HL6 HLS6
              go_region
              all_goals
                go_wp2_with fail
                go_meet
                exact ⟨by first | exact HSET.out _ rfl | exact (HSET.out _ rfl).on (Below.refl _ _).drew, by first | exact HTS.out _ | exact (HTS.out _).on (Below.refl _ _).drew⟩
            case rest => as_aux_lemma =>
              obtain ⟨hn, ht⟩ := hcut
              have hM7 := ht.blk HM6.out HNS6.out
              obtain ⟨⟨e0, e1, e2, e3⟩, ⟨e4, e5, e6⟩, ⟨e7, e8⟩⟩ := msg_cells hM7
              have HAN := Lib.hid (answer_any base g { y3 with commit := max x.commit (min m.c (m.i + (n : Int))) } m.f true (m.i + (n : Int)) S3 wc ⟨L6, hn, HLS6.out⟩ (Nat.le_trans HX6.out ht.size) (show y3.out.length ≤ 1048576 by rw [HUR.out.2.2]; show x.out.length ≤ 1048576; have := HX.out.2.1; omega))
              have HT7 := Lib.hid (HT6.out.trans ht HS6.out)
              have HS7 := Lib.hid (show ∀ k, S3 k → S k ∨ (w.heap.size ≤ k ∧ k < wc.heap.size) from fun k hk => (HS6.out k hk).imp id (fun h8 => ⟨h8.1, Nat.lt_of_lt_of_le h8.2 ht.size⟩))
              clear hn ht hM7
              go_wp2_with fail
              refine HAN.out.mono ?_
              rintro e w8 ⟨rfl, hm⟩
              have HM8 := Lib.hid (NMoves.trans HT7.out HS7.out hm)
              clear hm
              go_wp2_with fail
              go_end0
              rw [HZ.out]
              exact ⟨rfl, HM8.out⟩
end Go.Proofs.Ytlggkeoihpcdiaa
