/- The walk of package raft's counts. -/
import Derived.BigQuiet
import Derived.BigRegion
import Derived.Test.YtlggkeoihpcdiaaJ7
namespace Go.Proofs.Ytlggkeoihpcdiaa
open Go.RowKit

def okHead (x : NodeM) (m : MsgM) : Bool := decide (m.t = x.id) && !decide (m.f = x.id) && (decide (0 ≤ m.f) && decide (m.f ≤ x.n - 1))
def okKind (m : MsgM) : Bool := (decide (1 ≤ m.k) && decide (m.k ≤ 6)) && (decide (0 ≤ m.term) && decide (m.term ≤ 1099511627776)) && decide (m.es.length ≤ 8)
def okEnt (t : Int) (e : Ent) : Bool := (decide (1 ≤ e.t) && decide (e.t ≤ t)) && decide (e.s.size ≤ 512)
/-- may a message be taken? -/
def countsF (x : NodeM) (m : MsgM) : Bool := okHead x m && okKind m && m.es.all (okEnt m.term)

theorem all_bad {es : List Ent} {t : Int} {k : Nat} (hk : k < es.length) (h : okEnt t es[k] = false) : es.all (okEnt t) = false := by
  rw [← Bool.not_eq_true, List.all_eq_true]
  intro h9
  rw [h9 _ (List.getElem_mem hk)] at h
  cases h
theorem all_good {es : List Ent} {t : Int} (h : ∀ (j : Nat) (hj : j < es.length), okEnt t es[j] = true) : es.all (okEnt t) = true := by
  rw [List.all_eq_true]
  intro e he
  obtain ⟨j, hj, rfl⟩ := List.mem_iff_getElem.1 he
  exact h j hj

/-- what is known of a message's cells -/
theorem msg_cells {w : World} {b : Nat} {k f t term i lt c : Int} {yes : Bool} {A : Option Addr} {n cp : Nat} (h : Blk w b 61 #[.int .i64 k, .int .i64 f, .int .i64 t, .int .i64 term, .int .i64 i, .int .i64 lt, .int .i64 c, .bool yes, .slice A n cp]) :
    (w.cell? ⟨b, 0, none⟩ = some (.int .i64 k) ∧ w.cell? ⟨b, 1, none⟩ = some (.int .i64 f) ∧ w.cell? ⟨b, 2, none⟩ = some (.int .i64 t) ∧ w.cell? ⟨b, 3, none⟩ = some (.int .i64 term)) ∧
    (w.cell? ⟨b, 4, none⟩ = some (.int .i64 i) ∧ w.cell? ⟨b, 5, none⟩ = some (.int .i64 lt) ∧ w.cell? ⟨b, 6, none⟩ = some (.int .i64 c)) ∧ (w.cell? ⟨b, 7, none⟩ = some (.bool yes) ∧ w.cell? ⟨b, 8, none⟩ = some (.slice A n cp)) := by
  have hc := fun i => h.cell i
  exact ⟨⟨hc 0, hc 1, hc 2, hc 3⟩, ⟨hc 4, hc 5, hc 6⟩, ⟨hc 7, hc 8⟩⟩

set_option maxRecDepth 100000 in
set_option maxHeartbeats 1600000 in
/-- (*raft.Node).counts -/
theorem counts_any (base g : Nat) (x : NodeM) (m : MsgM) (A : Option Addr) (n c : Nat) (S : Nat → Prop) (w : World) (h : NodeAt w base g x S) (hn0 : 0 < x.n) (hn7 : x.n ≤ 7) (hs : Ents w w.heap.size A m.es) (hl : m.es.length = n) :
    Calls Try.prog 56 #[.pointer (some ⟨g, 0, none⟩), .agg #[.int .i64 m.k, .int .i64 m.f, .int .i64 m.t, .int .i64 m.term, .int .i64 m.i, .int .i64 m.lt, .int .i64 m.c, .bool m.yes, .slice A n c]] w fun e w' => e = .returned (.bool (countsF x m)) ∧ Below w.heap.size w w' := by
  obtain ⟨L, hL, _⟩ := h.cell
  have hM := Blk.new w 61 #[.int .i64 m.k, .int .i64 m.f, .int .i64 m.t, .int .i64 m.term, .int .i64 m.i, .int .i64 m.lt, .int .i64 m.c, .bool m.yes, .slice A n c]
  have hb0 := (Below.refl w.heap.size w).alloc (Nat.le_refl _) (.cells #[.int .i64 m.k, .int .i64 m.f, .int .i64 m.t, .int .i64 m.term, .int .i64 m.i, .int .i64 m.lt, .int .i64 m.c, .bool m.yes, .slice A n c] 61)
  have hhd : okHead x m = (decide (m.t = x.id) && !decide (m.f = x.id) && (decide (0 ≤ m.f) && decide (m.f ≤ x.n - 1))) := rfl
  have hw1 : IntKind.i64.wrap (x.n - 1) = x.n - 1 := wr_i64 (by omega) (by omega)
  have hcf : countsF x m = (okHead x m && okKind m && m.es.all (okEnt m.term)) := rfl
  have hkd : okKind m = ((decide (1 ≤ m.k) && decide (m.k ≤ 6)) && (decide (0 ≤ m.term) && decide (m.term ≤ 1099511627776)) && decide (m.es.length ≤ 8)) := rfl
  generalize hcv : countsF x m = cv at *
  have HCF := Lib.hid hcf
  generalize hhv : okHead x m = hv at *
  generalize hkv : okKind m = kv at *
  have HL := Lib.hid (hL.on hb0)
  have HM := Lib.hid hM
  have HB0 := Lib.hid hb0
  have HS := Lib.hid (Sees.on hs hb0)
  have HLN := Lib.hid hl
  have HHD := Lib.hid hhd
  have HKD := Lib.hid hkd
  clear hL h hM hb0 hs hl hhd hkd hcf hcv hhv hkv hn0 hn7
  go_enter Try.func56, Try.ntmps56
  go_upto_region 1 with (fail)
  generalize w.alloc (.cells #[.int .i64 m.k, .int .i64 m.f, .int .i64 m.t, .int .i64 m.term, .int .i64 m.i, .int .i64 m.lt, .int .i64 m.c, .bool m.yes, .slice A n c] 61) = w0 at *
  obtain ⟨⟨e0, e1, e2, e3⟩, ⟨e4, e5, e6⟩, ⟨e7, e8⟩⟩ := msg_cells HM.out
  obtain ⟨⟨c0, c1, c2, c3⟩, _⟩ := HL.out.cells
  go_cut [33] (fun v wx => v = .bool (!hv) ∧ Below w0.heap.size w0 wx)
  case first =>
    by_cases h1 : m.t = x.id
    · have q1 : (m.t != x.id) = false := by simp [h1]
      by_cases h2 : m.f = x.id
      · have q2 : (m.f == x.id) = true := by simp [h2]
        have hv0 : hv = false := by rw [HHD.out, decide_eq_true h2]; simp
        subst hv0
        clear h1 h2
        go_big_quiet (fail)
        go_wp2_with fail
        go_meet
        exact ⟨rfl, below_drewN (Below.refl _ _) nq⟩
      · have q2 : (m.f == x.id) = false := by rw [beq_eq_false_iff_ne]; exact h2
        have hr : (decide (0 ≤ m.f) && decide (m.f ≤ x.n - 1)) = hv := by rw [HHD.out, decide_eq_true h1, decide_eq_false h2]; simp
        have Q2 := Lib.hid (fun W => rwithin_any m.f 0 (x.n - 1) hv hr W)
        clear h1 h2 hr
        go_big_quiet (first | (go_at_call 51; refine Calls.quiet_of_same (Q2.out _)))
        go_wp2_with fail
        go_meet
        exact ⟨rfl, below_drewN (Below.refl _ _) nq⟩
    · have q1 : (m.t != x.id) = true := bne_iff_ne.2 h1
      have hv0 : hv = false := by rw [HHD.out, decide_eq_false h1]; simp
      subst hv0
      clear h1
      go_big_quiet (fail)
      go_wp2_with fail
      go_meet
      exact ⟨rfl, below_drewN (Below.refl _ _) nq⟩
  case rest =>
    obtain ⟨rfl, hbc⟩ := hcut
    clear c0 c1 c2 c3 e0 e1 e2 e3 e4 e5 e6 e7 e8 HL
    have HM1 := Lib.hid (HM.out.below hbc HM.out.lt)
    have HB1 := Lib.hid (bthen HB0.out hbc)
    have HS1 := Lib.hid (Sees.on HS.out hbc)
    clear HM HB0 HS hbc hw1
    cases hv
    · have HC := Lib.hid (show cv = false by rw [HCF.out]; rfl)
      go_wp2_with fail
      go_ret
      rw [HC.out]
      exact ⟨rfl, HB1.out⟩
    · obtain ⟨⟨e0, e1, e2, e3⟩, ⟨e4, e5, e6⟩, ⟨e7, e8⟩⟩ := msg_cells HM1.out
      obtain ⟨r1, h1⟩ : ∃ r1, (decide (1 ≤ m.k) && decide (m.k ≤ 6)) = r1 := ⟨_, rfl⟩
      obtain ⟨r2, h2⟩ : ∃ r2, (decide (0 ≤ m.term) && decide (m.term ≤ 1099511627776)) = r2 := ⟨_, rfl⟩
      have hkd := HKD.out
      rw [h1, h2] at hkd
      have HKV := Lib.hid hkd
      have Q1 := Lib.hid (fun W => rwithin_any m.k 1 6 r1 h1 W)
      have Q2 := Lib.hid (fun W => rwithin_any m.term 0 1099511627776 r2 h2 W)
      clear h1 h2 hkd HKD HHD
      cases r1
      · have HC := Lib.hid (show cv = false by rw [HCF.out, HKV.out]; rfl)
        go_wp2_with fail
        refine (Q1.out _).mono ?_
        rintro e w2 ⟨rfl, rfl⟩
        go_wp2_with fail
        go_ret
        rw [HC.out]
        exact ⟨rfl, HB1.out⟩
      · cases r2
        · have HC := Lib.hid (show cv = false by rw [HCF.out, HKV.out]; rfl)
          go_wp2_with fail
          refine (Q1.out _).mono ?_
          rintro e w2 ⟨rfl, rfl⟩
          go_wp2_with fail
          refine (Q2.out _).mono ?_
          rintro e w2 ⟨rfl, rfl⟩
          go_wp2_with fail
          go_ret
          rw [HC.out]
          exact ⟨rfl, HB1.out⟩
        · by_cases h8 : (8 : Int) < (n : Int)
          · have HC := Lib.hid (show cv = false by rw [HCF.out, HKV.out, decide_eq_false (show ¬ m.es.length ≤ 8 by rw [HLN.out]; omega)]; rfl)
            go_wp2_with fail
            refine (Q1.out _).mono ?_
            rintro e w2 ⟨rfl, rfl⟩
            go_wp2_with fail
            refine (Q2.out _).mono ?_
            rintro e w2 ⟨rfl, rfl⟩
            go_wp2_with fail
            go_ret
            rw [HC.out]
            exact ⟨rfl, HB1.out⟩
          · have HC := Lib.hid (show cv = m.es.all (okEnt m.term) by rw [HCF.out, HKV.out, decide_eq_true (show m.es.length ≤ 8 by rw [HLN.out]; omega)]; rfl)
            have HN8 := Lib.hid (show n ≤ 8 by omega)
            go_wp2_with fail
            refine (Q1.out _).mono ?_
            rintro e w2 ⟨rfl, rfl⟩
            go_wp2_with fail
            refine (Q2.out _).mono ?_
            rintro e w2 ⟨rfl, rfl⟩
            go_wp2_with fail
            clear Q1 Q2 e0 e1 e2 e3 e4 e5 e6 e7 e8 HCF HKV h8
            go_loopw [53] (fun iv wr => ∃ k : Nat, k ≤ n ∧ iv = .int .i64 (k : Int) ∧ (∀ (j : Nat) (hj : j < m.es.length), j < k → okEnt m.term m.es[j] = true) ∧ Below w2.heap.size w2 wr) (fun iv _ => n - (intOf iv).toNat)
            case atStart => exact ⟨0, Nat.zero_le _, rfl, (fun j _ h => absurd h (by omega)), Below.refl _ _⟩
            case round =>
              obtain ⟨k, hk, rfl, hup, hbel⟩ := hrel
              by_cases hlt : k < n
              · have hkl : k < m.es.length := by rw [HLN.out]; exact hlt
                obtain ⟨b, off, hA, hbl, d0, d1⟩ := Ents.at_ HS1.out hkl
                subst hA
                have d0' := (hbel.cell (p := ⟨b, off + k * 2, none⟩) hbl).trans d0
                have d1' := (hbel.cell (p := ⟨b, off + k * 2 + 1, none⟩) hbl).trans d1
                have hlt' : (k : Int) < (n : Int) := by omega
                have HUP := Lib.hid hup
                obtain ⟨y, hy⟩ : ∃ y, m.es[k] = y := ⟨_, rfl⟩
                rw [hy] at d0' d1'
                have hbad : okEnt m.term y = false → m.es.all (okEnt m.term) = false := fun h => all_bad hkl (by rw [hy]; exact h)
                have HBAD := Lib.hid hbad
                have HY := Lib.hid hy
                have hA2 := Blk.new wr 73 #[.int .i64 y.t, .string y.s]
                have HB2 := Lib.hid (hbel.alloc hbel.size (.cells #[.int .i64 y.t, .string y.s] 73))
                have g0 : (wr.alloc (.cells #[.int .i64 y.t, .string y.s] 73)).cell? ⟨wr.heap.size, 0, none⟩ = some (.int .i64 y.t) := by rw [hA2.cell]; rfl
                have g1 : (wr.alloc (.cells #[.int .i64 y.t, .string y.s] 73)).cell? ⟨wr.heap.size, 1, none⟩ = some (.string y.s) := by rw [hA2.cell]; rfl
                have e3 := (msg_cells (HM1.out.below HB2.out HM1.out.lt)).1.2.2.2
                have hk8 : (k : Int) ≤ 8 := by have := HN8.out; omega
                obtain ⟨r, hr⟩ : ∃ r, (decide (1 ≤ y.t) && decide (y.t ≤ m.term)) = r := ⟨_, rfl⟩
                have HOK := Lib.hid (show okEnt m.term y = (r && decide (y.s.size ≤ 512)) by unfold okEnt; rw [hr])
                have Q3 := Lib.hid (fun W => rwithin_any y.t 1 m.term r hr W)
                have HK := Lib.hid hlt
                clear d0 d1 hup hy hbad hA2 hbl hk hlt hr hbel
                cases r
                · have hf := HBAD.out HOK.out
                  rw [← HC.out] at hf
                  have HF := Lib.hid hf
                  clear hf
                  go_wp2_with fail
                  refine (Q3.out _).mono ?_
                  rintro e w3 ⟨rfl, rfl⟩
                  go_wp2_with fail
                  go_ret
                  rw [HF.out]
                  exact ⟨rfl, HB1.out.trans (HB2.out.mono HB1.out.size)⟩
                · by_cases h9 : (512 : Int) < (y.s.size : Int)
                  · have hf := HBAD.out (by rw [HOK.out, decide_eq_false (show ¬ y.s.size ≤ 512 by omega)]; rfl)
                    rw [← HC.out] at hf
                    have HF := Lib.hid hf
                    clear hf
                    go_wp2_with fail
                    refine (Q3.out _).mono ?_
                    rintro e w3 ⟨rfl, rfl⟩
                    go_wp2_with fail
                    go_ret
                    rw [HF.out]
                    exact ⟨rfl, HB1.out.trans (HB2.out.mono HB1.out.size)⟩
                  · have HG := Lib.hid (show okEnt m.term y = true by rw [HOK.out, decide_eq_true (show y.s.size ≤ 512 by omega)]; rfl)
                    go_wp2_with fail
                    refine (Q3.out _).mono ?_
                    rintro e w3 ⟨rfl, rfl⟩
                    go_wp2_with fail
                    go_roundw
                    case rel =>
                      refine ⟨k + 1, HK.out, by go_num, fun j hj hjk => ?_, HB2.out⟩
                      by_cases e : j = k
                      · subst e
                        have h8 := HY.out
                        rw [h8]
                        exact HG.out
                      · exact HUP.out j hj (by omega)
                    case measure => have := HK.out; simp [intOf]; omega
              · have hlt' : ¬ (k : Int) < (n : Int) := by omega
                have hall := all_good (es := m.es) (t := m.term) (fun j hj => hup j hj (by rw [HLN.out] at hj; omega))
                rw [← HC.out] at hall
                have HF := Lib.hid hall
                have HFB := Lib.hid (HB1.out.trans (hbel.mono HB1.out.size))
                clear hup hall hbel hk hlt
                go_wp2_with fail
                go_ret
                rw [HF.out]
                exact ⟨rfl, HFB.out⟩
end Go.Proofs.Ytlggkeoihpcdiaa

/- The walk of package raft's takeAskVote. -/
namespace Go.Proofs.Ytlggkeoihpcdiaa
open Go.RowKit

def voteOk (x : NodeM) (m : MsgM) : Bool := ((decide (x.vote = -1) || decide (x.vote = m.f)) && !decide (x.role = 3)) && youngF x.log m.i m.lt
def votedF (x : NodeM) (m : MsgM) : NodeM := if voteOk x m then { x with fresh := x.fresh || !decide (x.vote = m.f), vote := m.f, since := 0 } else x
def askVoteF (x : NodeM) (m : MsgM) : NodeM := tellF (votedF x m) ⟨4, 0, m.f, (votedF x m).term, 0, 0, 0, voteOk x m, []⟩
theorem votedF_same (x : NodeM) (m : MsgM) : (votedF x m).id = x.id ∧ (votedF x m).n = x.n ∧ (votedF x m).term = x.term ∧ (votedF x m).out = x.out ∧ (votedF x m).log = x.log := by
  unfold votedF
  split <;> exact ⟨rfl, rfl, rfl, rfl, rfl⟩
theorem Turn.blk {S : Nat → Prop} {a w : World} {k : Nat} {t : TypeId} {cs : Array Value} (h : Turn S a w) (hb : Blk a k t cs) (hk : ¬ S k) : Blk w k t cs := (h.block k hb.lt hk).trans hb

set_option maxRecDepth 100000 in
set_option maxHeartbeats 1600000 in
/-- (*raft.Node).takeAskVote -/
theorem takeAskVote_any (base g : Nat) (x : NodeM) (m : MsgM) (A : Option Addr) (n c : Nat) (S : Nat → Prop) (w : World) (h : NodeAt w base g x S) (hl : x.log.length ≤ 1048576) (hB : base ≤ w.heap.size) (ho : x.out.length ≤ 1000000) :
    Calls Try.prog 85 #[.pointer (some ⟨g, 0, none⟩), .agg #[.int .i64 m.k, .int .i64 m.f, .int .i64 m.t, .int .i64 m.term, .int .i64 m.i, .int .i64 m.lt, .int .i64 m.c, .bool m.yes, .slice A n c]] w fun e w' => e = .returned (.tuple #[]) ∧ NMoves w base g S (askVoteF x m) w' := by
  obtain ⟨L, hL, hS⟩ := h.cell
  have hM := Blk.new w 61 #[.int .i64 m.k, .int .i64 m.f, .int .i64 m.t, .int .i64 m.term, .int .i64 m.i, .int .i64 m.lt, .int .i64 m.c, .bool m.yes, .slice A n c]
  have hb0 := (Below.refl w.heap.size w).alloc (Nat.le_refl _) (.cells #[.int .i64 m.k, .int .i64 m.f, .int .i64 m.t, .int .i64 m.term, .int .i64 m.i, .int .i64 m.lt, .int .i64 m.c, .bool m.yes, .slice A n c] 61)
  have HL := Lib.hid (hL.on hb0)
  have HM := Lib.hid hM
  have HB0 := Lib.hid hb0
  have HS := Lib.hid hS
  have HG := Lib.hid h.own
  have HNS := Lib.hid (show ¬ S w.heap.size from fun hk => by have := h.has_lt _ hk; omega)
  have HX := Lib.hid (And.intro hl (And.intro ho (Nat.le_trans hB hb0.size)))
  clear hL h hM hb0 hS hl ho hB
  have HF := Lib.hid (show askVoteF x m = tellF (votedF x m) ⟨4, 0, m.f, (votedF x m).term, 0, 0, 0, voteOk x m, []⟩ from rfl)
  have HV := Lib.hid (show votedF x m = if voteOk x m then { x with fresh := x.fresh || !decide (x.vote = m.f), vote := m.f, since := 0 } else x from rfl)
  have HSA := Lib.hid (votedF_same x m)
  have HOK := Lib.hid (show voteOk x m = (((decide (x.vote = -1) || decide (x.vote = m.f)) && !decide (x.role = 3)) && youngF x.log m.i m.lt) from rfl)
  generalize votedF x m = y at *
  generalize voteOk x m = ok at *
  generalize askVoteF x m = z at *
  obtain ⟨fr, hfr⟩ : ∃ fr, (decide (x.vote = -1) || decide (x.vote = m.f)) = fr := ⟨_, rfl⟩
  have hok := HOK.out
  rw [hfr] at hok
  have HFR := Lib.hid hfr
  have HOK := Lib.hid hok
  clear hfr hok
  go_enter Try.func85, Try.ntmps85
  go_upto_region 1 with (fail)
  generalize w.alloc (.cells #[.int .i64 m.k, .int .i64 m.f, .int .i64 m.t, .int .i64 m.term, .int .i64 m.i, .int .i64 m.lt, .int .i64 m.c, .bool m.yes, .slice A n c] 61) = w0 at *
  obtain ⟨⟨e0, e1, e2, e3⟩, ⟨e4, e5, e6⟩, ⟨e7, e8⟩⟩ := msg_cells HM.out
  obtain ⟨⟨c0, c1, c2, c3⟩, ⟨c4, c5, c6, c7⟩, ⟨c8, c9, c10, c11⟩, ⟨c12, c13, c14, c15, c16⟩⟩ := HL.out.cells
  go_cut [4] (fun v wx => v = .bool fr ∧ Below w0.heap.size w0 wx)
  case first =>
    by_cases h1 : x.vote = -1
    · have q1 : (x.vote == -1) = true := by simp [h1]
      have hv0 : fr = true := by rw [← HFR.out, decide_eq_true h1]; simp
      subst hv0
      clear h1
      go_big_quiet (fail)
      go_wp2_with fail
      go_meet
      exact ⟨rfl, below_drewN (Below.refl _ _) nq⟩
    · have q1 : (x.vote == -1) = false := by rw [beq_eq_false_iff_ne]; exact h1
      by_cases h2 : x.vote = m.f
      · have q2 : (x.vote == m.f) = true := by simp [h2]
        have hv0 : fr = true := by rw [← HFR.out, decide_eq_true h2]; simp
        subst hv0
        clear h1 h2
        go_big_quiet (fail)
        go_wp2_with fail
        go_meet
        exact ⟨rfl, below_drewN (Below.refl _ _) nq⟩
      · have q2 : (x.vote == m.f) = false := by rw [beq_eq_false_iff_ne]; exact h2
        have hv0 : fr = false := by rw [← HFR.out, decide_eq_false h1, decide_eq_false h2]; simp
        subst hv0
        clear h1 h2
        go_big_quiet (fail)
        go_wp2_with fail
        go_meet
        exact ⟨rfl, below_drewN (Below.refl _ _) nq⟩
  case rest =>
    obtain ⟨rfl, hbc⟩ := hcut
    have HL1 := Lib.hid (HL.out.on hbc)
    have HM1 := Lib.hid (HM.out.below hbc HM.out.lt)
    have HB1 := Lib.hid (bthen HB0.out hbc)
    have HX1 := Lib.hid (show base ≤ wc.heap.size from Nat.le_trans HX.out.2.2 hbc.size)
    clear hbc HL HM HB0 e0 e1 e2 e3 e4 e5 e6 e7 e8 c0 c1 c2 c3 c4 c5 c6 c7 c8 c9 c10 c11 c12 c13 c14 c15 c16
    obtain ⟨⟨e0, e1, e2, e3⟩, ⟨e4, e5, e6⟩, ⟨e7, e8⟩⟩ := msg_cells HM1.out
    obtain ⟨⟨c0, c1, c2, c3⟩, ⟨c4, c5, c6, c7⟩, ⟨c8, c9, c10, c11⟩, ⟨c12, c13, c14, c15, c16⟩⟩ := HL1.out.cells
    go_upto_region 2 with (fail)
    go_cut [5] (fun v wx => v = .bool ok ∧ Below wc.heap.size wc wx)
    case first =>
      cases fr
      · have hv0 : ok = false := by rw [HOK.out]; rfl
        subst hv0
        go_big_quiet (fail)
        go_wp2_with fail
        go_meet
        exact ⟨rfl, below_drewN (Below.refl _ _) nq⟩
      · by_cases h3 : x.role = 3
        · have q3 : (x.role != 3) = false := by simp [h3]
          have hv0 : ok = false := by rw [HOK.out, decide_eq_true h3]; rfl
          subst hv0
          clear h3
          go_big_quiet (fail)
          go_wp2_with fail
          go_meet
          exact ⟨rfl, below_drewN (Below.refl _ _) nq⟩
        · have q3 : (x.role != 3) = true := bne_iff_ne.2 h3
          have hv0 : ok = youngF x.log m.i m.lt := by rw [HOK.out, decide_eq_false h3]; simp
          have HY := Lib.hid (fun W (hW : Below wc.heap.size wc W) => lYounger_any base L.gl L.fl x.log m.i m.lt W (HL1.out.on hW).log (by have := HX.out; omega))
          rw [← hv0] at HY
          clear h3 hv0
          go_big_quiet (first | (go_at_call 82; refine Calls.quiet_of_same (HY.out _ (below_drewN (Below.refl _ _) _))))
          go_wp2_with fail
          go_meet
          exact ⟨rfl, below_drewN (Below.refl _ _) nq⟩
    case rest =>
      obtain ⟨rfl, hbc⟩ := hcut
      have HL2 := Lib.hid (HL1.out.on hbc)
      have HM2 := Lib.hid (HM1.out.below hbc HM1.out.lt)
      have HB2 := Lib.hid (bthen HB1.out hbc)
      have HX2 := Lib.hid (show base ≤ wc.heap.size from Nat.le_trans HX1.out hbc.size)
      clear hbc HL1 HM1 HB1 HX1 e0 e1 e2 e3 e4 e5 e6 e7 e8 c0 c1 c2 c3 c4 c5 c6 c7 c8 c9 c10 c11 c12 c13 c14 c15 c16
      go_upto_if 39 with (fail)
      go_cut [] (fun wx => NodeR wx base g y L ∧ Turn S wc wx)
      case first =>
        cases ok
        · have HY := Lib.hid (show y = x by rw [HV.out]; rfl)
          go_wp2_with fail
          go_meet
          rw [HY.out]
          exact ⟨HL2.out, Turn.refl _ _⟩
        · have HY := Lib.hid (show y = { x with fresh := x.fresh || !decide (x.vote = m.f), vote := m.f, since := 0 } by rw [HV.out]; rfl)
          obtain ⟨⟨e0, e1, e2, e3⟩, ⟨e4, e5, e6⟩, ⟨e7, e8⟩⟩ := msg_cells HM2.out
          obtain ⟨_, ⟨c4, c5, c6, c7⟩, ⟨c8, c9, c10, c11⟩, ⟨c12, c13, c14, c15, c16⟩⟩ := HL2.out.cells
          have f15 := HL2.out.blk.frozen 15
          go_upto_region 4 with (fail)
          go_cut [] (fun wx => NodeR wx base g { x with fresh := x.fresh || !decide (x.vote = m.f) } L ∧ Turn S wc wx)
          case first =>
            have hs15 := fun (b : Bool) (hb : (x.fresh || !decide (x.vote = m.f)) = b) => (show NodeR (wc.setCell ⟨g, 15, none⟩ (.bool b)) base g { x with fresh := x.fresh || !decide (x.vote = m.f) } L from by rw [hb]; exact HL2.out.set 15 (.bool b) (x' := { x with fresh := b }) rfl rfl rfl rfl)
            have HS15 := Lib.hid hs15
            have HT15 := Lib.hid (fun (b : Bool) => (Turn.refl S wc).set_ ⟨HG.out.1, _, HL2.out.blk⟩ 15 (.bool b))
            clear hs15
            cases hfr : x.fresh
            · by_cases h2 : x.vote = m.f
              · have q2 : (x.vote != m.f) = false := by simp [h2]
                have HB := Lib.hid (show (x.fresh || !decide (x.vote = m.f)) = false by rw [hfr, decide_eq_true h2]; rfl)
                rw [hfr] at c15
                clear h2
                go_region
                all_goals
                  go_wp2_with fail
                  go_meet
                  exact ⟨by first | exact HS15.out _ HB.out | exact (HS15.out _ HB.out).on (Below.refl _ _).drew, by first | exact HT15.out _ | exact (HT15.out _).on (Below.refl _ _).drew⟩
              · have q2 : (x.vote != m.f) = true := bne_iff_ne.2 h2
                have HB := Lib.hid (show (x.fresh || !decide (x.vote = m.f)) = true by rw [hfr, decide_eq_false h2]; rfl)
                rw [hfr] at c15
                clear h2
                go_region
                all_goals
                  go_wp2_with fail
                  go_meet
                  exact ⟨by first | exact HS15.out _ HB.out | exact (HS15.out _ HB.out).on (Below.refl _ _).drew, by first | exact HT15.out _ | exact (HT15.out _).on (Below.refl _ _).drew⟩
            · have HB := Lib.hid (show (x.fresh || !decide (x.vote = m.f)) = true by rw [hfr]; rfl)
              rw [hfr] at c15
              go_region
              all_goals
                go_wp2_with fail
                go_meet
                exact ⟨by first | exact HS15.out _ HB.out | exact (HS15.out _ HB.out).on (Below.refl _ _).drew, by first | exact HT15.out _ | exact (HT15.out _).on (Below.refl _ _).drew⟩
          case rest =>
            obtain ⟨hn, ht⟩ := hcut
            have hM3 := ht.blk HM2.out HNS.out
            obtain ⟨⟨e0, e1, e2, e3⟩, ⟨e4, e5, e6⟩, ⟨e7, e8⟩⟩ := msg_cells hM3
            obtain ⟨_, ⟨_, c5, _, _⟩, ⟨_, _, c10, _⟩, _⟩ := hn.cells
            have f5 := hn.blk.frozen 5
            have f10 := hn.blk.frozen 10
            have HN := Lib.hid ((hn.set 5 (.int .i64 m.f) (x' := { x with fresh := x.fresh || !decide (x.vote = m.f), vote := m.f }) rfl rfl rfl rfl).set 10 (.int .i64 0) (x' := { x with fresh := x.fresh || !decide (x.vote = m.f), vote := m.f, since := 0 }) rfl rfl rfl rfl)
            have HT := Lib.hid ((ht.set_ ⟨HG.out.1, _, HL2.out.blk⟩ 5 (.int .i64 m.f)).set_ ⟨HG.out.1, _, HL2.out.blk⟩ 10 (.int .i64 0))
            clear hn ht hM3
            go_wp2_with fail
            go_meet
            rw [HY.out]
            exact ⟨HN.out, HT.out⟩
      case rest =>
        obtain ⟨hn, ht⟩ := hcut
        have hM3 := ht.blk HM2.out HNS.out
        have HM3 := Lib.hid hM3
        have HT3 := Lib.hid (show Turn S w _ from (Turn.of_below HB2.out).trans ht (fun _ hk => .inl hk))
        have HX3 := Lib.hid (Nat.le_trans HX2.out ht.size)
        have HN3 := Lib.hid hn
        obtain ⟨⟨e0, e1, e2, e3⟩, ⟨e4, e5, e6⟩, ⟨e7, e8⟩⟩ := msg_cells hM3
        obtain ⟨_, ⟨c4, _, _, _⟩, _, _⟩ := hn.cells
        have HTE := Lib.hid (fun W (hW : Below _ _ W) => tell_any base g y ⟨4, 0, m.f, y.term, 0, 0, 0, ok, []⟩ none 0 0 S W (show NodeAt W base g y S from ⟨L, hn.on hW, HS.out⟩) rfl (FreeN.nil _ _ _ _) (fun k hk => by simp [foot] at hk) (Nat.le_trans HX3.out hW.size) (by rw [HSA.out.2.2.2.1]; have := HX.out; omega))
        clear hn ht hM3 HM2 HL2 HB2 HX2
        go_upto_region 6 with (fail)
        go_region_with (refine (HTE.out _ (by first | exact (Below.refl _ _).drew | exact Below.refl _ _)).mono ?_; rintro e w5 ⟨rfl, hm⟩)
        all_goals
          go_wp2_with fail
          go_end0
          rw [HF.out]
          first
            | exact ⟨rfl, NMoves.trans HT3.out (fun _ hk => .inl hk) hm⟩
            | exact ⟨rfl, NMoves.trans (HT3.out.on (Below.refl _ _).drew) (fun _ hk => .inl hk) hm⟩
end Go.Proofs.Ytlggkeoihpcdiaa

/- The walks of package raft's takeOfTerm and Step, of a question for a vote. -/
namespace Go.Proofs.Ytlggkeoihpcdiaa
open Go.RowKit

/-- a greater term is followed first -/
def firstF (x : NodeM) (t : Int) : NodeM := if x.term < t then followF x t (-1) else x
def ofTerm3F (x : NodeM) (m : MsgM) : NodeM := if m.term < (firstF x m.term).term then firstF x m.term else askVoteF (firstF x m.term) m
theorem followF_same (x : NodeM) (t l : Int) : (followF x t l).id = x.id ∧ (followF x t l).n = x.n ∧ (followF x t l).log = x.log ∧ (followF x t l).out = x.out ∧ (followF x t l).peers = x.peers := by
  unfold followF
  split <;> exact ⟨rfl, rfl, rfl, rfl, rfl⟩
theorem firstF_same (x : NodeM) (t : Int) : (firstF x t).id = x.id ∧ (firstF x t).n = x.n ∧ (firstF x t).log = x.log ∧ (firstF x t).out = x.out ∧ (firstF x t).peers = x.peers := by
  unfold firstF
  split
  · exact followF_same x t (-1)
  · exact ⟨rfl, rfl, rfl, rfl, rfl⟩
set_option maxRecDepth 100000 in
set_option maxHeartbeats 1600000 in
/-- (*raft.Node).takeOfTerm, of a question for a vote -/
theorem ofTerm3_any (base g : Nat) (x : NodeM) (m : MsgM) (hk3 : m.k = 3) (A : Option Addr) (n c : Nat) (S : Nat → Prop) (w : World) (h : NodeAt w base g x S) (hl : x.log.length ≤ 1048576) (hB : base ≤ w.heap.size) (ho : x.out.length ≤ 1000000) :
    Calls Try.prog 59 #[.pointer (some ⟨g, 0, none⟩), .agg #[.int .i64 m.k, .int .i64 m.f, .int .i64 m.t, .int .i64 m.term, .int .i64 m.i, .int .i64 m.lt, .int .i64 m.c, .bool m.yes, .slice A n c]] w fun e w' => e = .returned (.tuple #[]) ∧ NMoves w base g S (ofTerm3F x m) w' := by
  obtain ⟨L, hL, hS⟩ := h.cell
  have hM := Blk.new w 61 #[.int .i64 m.k, .int .i64 m.f, .int .i64 m.t, .int .i64 m.term, .int .i64 m.i, .int .i64 m.lt, .int .i64 m.c, .bool m.yes, .slice A n c]
  have hb0 := (Below.refl w.heap.size w).alloc (Nat.le_refl _) (.cells #[.int .i64 m.k, .int .i64 m.f, .int .i64 m.t, .int .i64 m.term, .int .i64 m.i, .int .i64 m.lt, .int .i64 m.c, .bool m.yes, .slice A n c] 61)
  have HL := Lib.hid (hL.on hb0)
  have HA := Lib.hid (h.on hb0)
  have HM := Lib.hid hM
  have HB0 := Lib.hid hb0
  have HNS := Lib.hid (show ∀ k, S k → k < w.heap.size from fun k hk => h.has_lt _ hk)
  have HX := Lib.hid (And.intro hl (And.intro ho (Nat.le_trans hB hb0.size)))
  have HK := Lib.hid hk3
  have HF := Lib.hid (show ofTerm3F x m = if m.term < (firstF x m.term).term then firstF x m.term else askVoteF (firstF x m.term) m from rfl)
  have HFI := Lib.hid (show firstF x m.term = if x.term < m.term then followF x m.term (-1) else x from rfl)
  have HSA := Lib.hid (firstF_same x m.term)
  generalize firstF x m.term = y at *
  generalize ofTerm3F x m = z at *
  clear hL h hM hb0 hS hl ho hB hk3
  go_enter Try.func59, Try.ntmps59
  go_upto_region 1 with (fail)
  generalize w.alloc (.cells #[.int .i64 m.k, .int .i64 m.f, .int .i64 m.t, .int .i64 m.term, .int .i64 m.i, .int .i64 m.lt, .int .i64 m.c, .bool m.yes, .slice A n c] 61) = w0 at *
  obtain ⟨⟨e0, e1, e2, e3⟩, ⟨e4, e5, e6⟩, ⟨e7, e8⟩⟩ := msg_cells HM.out
  obtain ⟨_, ⟨c4, c5, c6, c7⟩, _, _⟩ := HL.out.cells
  go_cut [10] (fun v wx => v = .bool (decide (x.term < m.term)) ∧ Below w0.heap.size w0 wx)
  case first =>
    go_big_quiet (fail)
    go_wp2_with fail
    go_meet
    exact ⟨rfl, below_drewN (Below.refl _ _) nq⟩
  case rest =>
    obtain ⟨rfl, hbc⟩ := hcut
    have HM1 := Lib.hid (HM.out.below hbc HM.out.lt)
    have HA1 := Lib.hid (HA.out.on hbc)
    have HB1 := Lib.hid (bthen HB0.out hbc)
    have HZ0 := Lib.hid hbc.size
    clear hbc HL HM HB0 HA e0 e1 e2 e3 e4 e5 e6 e7 e8 c4 c5 c6 c7
    obtain ⟨⟨e0, e1, e2, e3⟩, ⟨e4, e5, e6⟩, ⟨e7, e8⟩⟩ := msg_cells HM1.out
    go_upto_if 10 with (fail)
    go_cut [] (fun wx => NMoves wc base g S y wx)
    case first =>
      by_cases ht : x.term < m.term
      · have htd : decide (x.term < m.term) = true := decide_eq_true ht
        have HY := Lib.hid (show y = followF x m.term (-1) by rw [HFI.out, if_pos ht])
        have HFO := Lib.hid (follow_any base g x m.term (-1) S wc HA1.out)
        rw [htd]
        clear ht
        go_wp2_with fail
        refine HFO.out.mono ?_
        rintro e w3 ⟨rfl, hm⟩
        go_wp2_with fail
        go_meet
        rw [HY.out]
        exact hm
      · have htd : decide (x.term < m.term) = false := decide_eq_false ht
        have HY := Lib.hid (show y = x by rw [HFI.out, if_neg ht])
        rw [htd]
        clear ht
        go_wp2_with fail
        go_meet
        rw [HY.out]
        exact NMoves.same HA1.out
    case rest =>
      obtain ⟨S1, hna, htu, hsu⟩ := hcut
      have hM2 := htu.blk HM1.out (fun hk => by have := HNS.out _ hk; omega)
      have HM2 := Lib.hid hM2
      have HT2 := Lib.hid (show Turn S w wc from (Turn.of_below HB1.out).trans htu (fun _ hk => .inl hk))
      have HS2 := Lib.hid (show ∀ k, S1 k → S k ∨ (w.heap.size ≤ k ∧ k < wc.heap.size) from fun k hk => (hsu k hk).imp id (fun h => ⟨Nat.le_trans HB1.out.size h.1, h.2⟩))
      have HA2 := Lib.hid hna
      have HX2 := Lib.hid (show base ≤ wc.heap.size from Nat.le_trans (Nat.le_trans HX.out.2.2 (show w0.heap.size ≤ _ from HZ0.out)) htu.size)
      clear hna htu hsu HM1 HA1 HB1 hM2 e0 e1 e2 e3 e4 e5 e6 e7 e8
      obtain ⟨⟨e0, e1, e2, e3⟩, ⟨e4, e5, e6⟩, ⟨e7, e8⟩⟩ := msg_cells HM2.out
      obtain ⟨L2, hL2, _⟩ := HA2.out.cell
      obtain ⟨_, ⟨c4, _, _, _⟩, _, _⟩ := hL2.cells
      clear hL2
      go_upto_region 3 with (fail)
      go_cut [21] (fun v wx => v = .bool (decide (m.term < y.term)) ∧ Below wc.heap.size wc wx)
      case first =>
        go_big_quiet (fail)
        go_wp2_with fail
        go_meet
        exact ⟨rfl, below_drewN (Below.refl _ _) nq⟩
      case rest =>
        obtain ⟨rfl, hbc⟩ := hcut
        have HM3 := Lib.hid (HM2.out.below hbc HM2.out.lt)
        have HA3 := Lib.hid (HA2.out.on hbc)
        have HT3 := Lib.hid (HT2.out.on hbc)
        have HS3 := Lib.hid (fun k (hk : S1 k) => (HS2.out k hk).imp id (fun h => And.intro h.1 (Nat.lt_of_lt_of_le h.2 hbc.size)))
        have HX3 := Lib.hid (Nat.le_trans HX2.out hbc.size)
        clear hbc HM2 HA2 HT2 HS2 HX2 e0 e1 e2 e3 e4 e5 e6 e7 e8 c4
        obtain ⟨⟨e0, e1, e2, e3⟩, ⟨e4, e5, e6⟩, ⟨e7, e8⟩⟩ := msg_cells HM3.out
        have hrow := HM3.out
        rw [HK.out] at e0
        by_cases ht : m.term < y.term
        · have htd : decide (m.term < y.term) = true := decide_eq_true ht
          have HZ := Lib.hid (show z = y by rw [HF.out, if_pos ht])
          rw [htd]
          clear ht
          go_wp2_with fail
          refine bodyPost_ret (results_none rfl _ _ _) rfl ?_
          rw [HZ.out]
          exact ⟨rfl, NMoves.trans HT3.out HS3.out (NMoves.same HA3.out)⟩
        · have htd : decide (m.term < y.term) = false := decide_eq_false ht
          have HZ := Lib.hid (show z = askVoteF y m by rw [HF.out, if_neg ht])
          have HTA := Lib.hid (takeAskVote_any base g y m A n c S1 wc HA3.out (by rw [HSA.out.2.2.1]; exact HX.out.1) HX3.out (by rw [HSA.out.2.2.2.1]; exact HX.out.2.1))
          rw [HK.out] at HTA
          rw [htd]
          clear ht
          go_wp2_with fail
          refine HTA.out.mono ?_
          rintro e w3 ⟨rfl, hm⟩
          have HM4 := Lib.hid (NMoves.trans HT3.out HS3.out hm)
          clear hm
          go_wp2_with fail
          go_end0
          rw [HZ.out]
          exact ⟨rfl, HM4.out⟩
end Go.Proofs.Ytlggkeoihpcdiaa

/- The walk of package raft's Step, of a question for a vote. -/
namespace Go.Proofs.Ytlggkeoihpcdiaa
open Go.RowKit

def step3F (x : NodeM) (m : MsgM) : NodeM := if countsF x m then ofTerm3F x m else x

set_option maxRecDepth 100000 in
set_option maxHeartbeats 1600000 in
/-- (*raft.Node).Step, of a question for a vote -/
theorem step3_any (base g : Nat) (x : NodeM) (m : MsgM) (hk3 : m.k = 3) (A : Option Addr) (n c : Nat) (S : Nat → Prop) (w : World) (h : NodeAt w base g x S) (hn0 : 0 < x.n) (hn7 : x.n ≤ 7) (hs : Ents w w.heap.size A m.es) (hln : m.es.length = n) (hl : x.log.length ≤ 1048576) (hB : base ≤ w.heap.size) (ho : x.out.length ≤ 1000000) :
    Calls Try.prog 30 #[.pointer (some ⟨g, 0, none⟩), .agg #[.int .i64 m.k, .int .i64 m.f, .int .i64 m.t, .int .i64 m.term, .int .i64 m.i, .int .i64 m.lt, .int .i64 m.c, .bool m.yes, .slice A n c]] w fun e w' => e = .returned (.tuple #[]) ∧ NMoves w base g S (step3F x m) w' := by
  have hM := Blk.new w 61 #[.int .i64 m.k, .int .i64 m.f, .int .i64 m.t, .int .i64 m.term, .int .i64 m.i, .int .i64 m.lt, .int .i64 m.c, .bool m.yes, .slice A n c]
  have hb0 := (Below.refl w.heap.size w).alloc (Nat.le_refl _) (.cells #[.int .i64 m.k, .int .i64 m.f, .int .i64 m.t, .int .i64 m.term, .int .i64 m.i, .int .i64 m.lt, .int .i64 m.c, .bool m.yes, .slice A n c] 61)
  have HA := Lib.hid (h.on hb0)
  have HM := Lib.hid hM
  have HB0 := Lib.hid hb0
  have HX := Lib.hid (And.intro hl (And.intro ho (Nat.le_trans hB hb0.size)))
  have HK := Lib.hid hk3
  have HF := Lib.hid (show step3F x m = if countsF x m then ofTerm3F x m else x from rfl)
  have HMA := Lib.hid (made_any base g x S _ (h.on hb0) hn0)
  have HCO := Lib.hid (counts_any base g x m A n c S _ (h.on hb0) hn0 hn7 (Sees.on hs hb0) hln)
  generalize step3F x m = z at *
  generalize hcc : countsF x m = cc at *
  clear h hM hb0 hl ho hB hk3 hn0 hn7 hs hln
  go_enter Try.func30, Try.ntmps30
  go_upto_region 1 with (fail)
  generalize w.alloc (.cells #[.int .i64 m.k, .int .i64 m.f, .int .i64 m.t, .int .i64 m.term, .int .i64 m.i, .int .i64 m.lt, .int .i64 m.c, .bool m.yes, .slice A n c] 61) = w0 at *
  obtain ⟨⟨e0, e1, e2, e3⟩, ⟨e4, e5, e6⟩, ⟨e7, e8⟩⟩ := msg_cells HM.out
  have hrow := HM.out
  go_wp2_with fail
  refine HMA.out.mono ?_
  rintro e w2 ⟨rfl, rfl⟩
  go_wp2_with fail
  refine HCO.out.mono ?_
  rintro e w3 ⟨rfl, hb3⟩
  have HM3 := Lib.hid (HM.out.below hb3 HM.out.lt)
  have HA3 := Lib.hid (HA.out.on hb3)
  have HB3 := Lib.hid (bthen HB0.out hb3)
  have HX3 := Lib.hid (Nat.le_trans HX.out.2.2 hb3.size)
  clear e0 e1 e2 e3 e4 e5 e6 e7 e8 hrow hb3 HM HA HB0 HMA HCO
  have HT3 := Lib.hid (Turn.of_below (S := S) HB3.out)
  cases cc
  · have HZ := Lib.hid (show z = x by rw [HF.out]; rfl)
    go_wp2_with fail
    refine bodyPost_ret (results_none rfl _ _ _) rfl ?_
    rw [HZ.out]
    exact ⟨rfl, NMoves.trans HT3.out (fun _ hk => .inl hk) (NMoves.same HA3.out)⟩
  · have HZ := Lib.hid (show z = ofTerm3F x m by rw [HF.out]; rfl)
    obtain ⟨⟨e0, e1, e2, e3⟩, ⟨e4, e5, e6⟩, ⟨e7, e8⟩⟩ := msg_cells HM3.out
    have hrow := HM3.out
    have HTA := Lib.hid (ofTerm3_any base g x m HK.out A n c S w3 HA3.out HX.out.1 HX3.out HX.out.2.1)
    rw [HK.out] at HTA e0
    go_wp2_with fail
    refine HTA.out.mono ?_
    rintro e w4 ⟨rfl, hm⟩
    have HM4 := Lib.hid (NMoves.trans HT3.out (fun _ hk => .inl hk) hm)
    clear hm
    go_wp2_with fail
    go_end0
    rw [HZ.out]
    exact ⟨rfl, HM4.out⟩

set_option maxRecDepth 100000 in
theorem propose_nil (s : ByteArray) (w : World) :
    Calls Try.prog 32 #[.pointer none, .string s] w fun e w' => e = .returned (.tuple #[.int .i64 0, .int .i64 1]) ∧ w' = w := by
  have HM := Lib.hid (made_nil w)
  go_enter Try.func32, Try.ntmps32
  go_wp2_with (first | (refine HM.out.mono ?_; rintro e w1 ⟨rfl, rfl⟩))
  go_ret2
  exact ⟨rfl, rfl⟩
end Go.Proofs.Ytlggkeoihpcdiaa
