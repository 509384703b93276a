/- RaftVotes: who asks for a vote gets it just if none was given in the term, or to the same one, and its log isn't elder. For every input, without a condition. -/
import Derived.Test.YtmhgbpgbnfdokaaRows
import Derived.ProofKit
import Derived.OpenShut
import Derived.Deep.RegionHeld3
import Derived.Test.YtmhgbpgbnfdokaaJ13
import Derived.Test.YtmhgbpgbnfdokaaJ15
import Derived.Test.YtmhgbpgbnfdokaaJ16
namespace Go.Proofs.Ytmhgbpgbnfdokaa.raftVotes
open Go.ChangeShapes Go.WideShapes Go.ChangeAt Go.RowKit
set_option linter.unusedVariables false

theorem own : ownKnob Try.prog.godebug = none := by kernel_rfl
theorem laidOut : laidOutB Try.prog = true := by kernel_rfl

theorem st_field (a b c : Value) (W : World) : (Instr.field 25 (.agg #[a, b, c]) 1).run Try.prog W = .ok b W := by kernel_rfl

set_option maxRecDepth 100000 in
set_option maxHeartbeats 12000000 in
theorem walk (A : Option Addr) (n c : Nat) (l : List Ent) (A2 : Option Addr) (n2 c2 : Nat) (f : Nat → MsgL) (w : World) (hs : Ents w w.heap.size A l) (hl : l.length = n) (hn : n ≤ maxLen) (hm : MsgsL w w.heap.size A2 n2 f) (hn2 : n2 ≤ maxLen) :
    Calls Try.prog 8 #[.slice A n c, .slice A2 n2 c2] w fun e w' => e = .returned (.bool true) ∧ Below w.heap.size w w' := by
  have HF := Lib.hid (fixed8_any w)
  have HS := Lib.hid hs
  have HL := Lib.hid hl
  have HM := Lib.hid hm
  have hnn : (n : Int) ≤ 9223372036854775807 := by have : maxLen = 9223372036854775807 := rfl; omega
  have HNN := Lib.hid hnn
  have hnn2 : (n2 : Int) ≤ 9223372036854775807 := by have : maxLen = 9223372036854775807 := rfl; omega
  have HNN2 := Lib.hid hnn2
  clear hs hl hm hn hn2 hnn hnn2
  go_enter Try.func8, Try.ntmps8
  go_wp2_with fail
  refine HF.out.mono ?_
  rintro e w1 ⟨rfl, hb1⟩
  have hT := Blk.new w1 25 #[.int .i64 0, .int .i64 (-1), .slice A n c]
  have hb2 := (Below.refl w1.heap.size w1).alloc (Nat.le_refl _) (.cells #[.int .i64 0, .int .i64 (-1), .slice A n c] 25)
  go_upto_region 5 with (fail)
  generalize w1.alloc (.cells #[.int .i64 0, .int .i64 (-1), .slice A n c] 25) = w2 at *
  have HT := Lib.hid hT
  have HB1 := Lib.hid hb1
  have HB2 := Lib.hid hb2
  have HLT := Lib.hid hT.lt
  clear hT hb1 hb2
  go_loopw [23] (fun iv wr => ∃ k : Nat, k ≤ n ∧ iv = .int .i64 (k : Int) ∧ Blk wr w1.heap.size 25 #[.int .i64 (maxT l k), .int .i64 (-1), .slice A n c] ∧ Below w1.heap.size w1 wr) (fun iv _ => n - (intOf iv).toNat)
  case atStart => exact ⟨0, Nat.zero_le _, rfl, HT.out, HB2.out⟩
  case round =>
    obtain ⟨k, hk, rfl, hblk, hbel⟩ := hrel
    by_cases hlt : k < n
    · have hkl : k < l.length := by rw [HL.out]; exact hlt
      obtain ⟨b, off, hA, hbl, d0, d1⟩ := Ents.at_ HS.out hkl
      have hbw := HB1.out.trans (hbel.mono HB1.out.size)
      have d0' := (hbw.cell (p := ⟨b, off + k * 2, none⟩) hbl).trans d0
      have d1' := (hbw.cell (p := ⟨b, off + k * 2 + 1, none⟩) hbl).trans d1
      have hlt' : (k : Int) < (n : Int) := by omega
      have hk1 : (k : Int) + 1 ≤ 9223372036854775807 := by have := HNN.out; omega
      have hsu := maxT_succ l k hkl
      obtain ⟨y, hy⟩ : ∃ y, l[k] = y := ⟨_, rfl⟩
      rw [hy] at d0' d1' hsu
      have hmx : (max (maxT l k) y.t : Int) = if maxT l k < y.t then y.t else maxT l k := by split <;> omega
      have HSU := Lib.hid hsu
      have HK := Lib.hid hlt
      have hA2 := Blk.new wr 73 #[.int .i64 y.t, .string y.s]
      have hbA := (Below.refl wr.heap.size wr).alloc (Nat.le_refl _) (.cells #[.int .i64 y.t, .string y.s] 73)
      have HB3 := Lib.hid (bthen hbel hbA)
      have HBK := Lib.hid (hblk.below hbA hblk.lt)
      generalize maxT l k = t0 at *
      subst hA
      clear hbel hblk hbw d0 d1 hbl hsu hy hk hlt hkl
      go_upto_region 7 with (fail)
      have g0 : (wr.alloc (.cells #[.int .i64 y.t, .string y.s] 73)).cell? ⟨wr.heap.size, 0, none⟩ = some (.int .i64 y.t) := by rw [hA2.cell]; rfl
      generalize wr.alloc (.cells #[.int .i64 y.t, .string y.s] 73) = w3 at *
      have s0 : w3.cell? ⟨w1.heap.size, 0, none⟩ = some (.int .i64 t0) := by rw [HBK.out.cell]; rfl
      have fs0 := HBK.out.frozen 0
      clear hA2 hbA hmx d1' d0'
      go_wp2_with fail
      go_roundw
      case rel => exact ⟨k + 1, HK.out, by go_num, by rw [HSU.out]; exact HBK.out.set_ 0 (.int .i64 (max t0 y.t)), HB3.out.setCell (p := ⟨w1.heap.size, 0, none⟩) (Nat.le_refl _) (.int .i64 (max t0 y.t))⟩
      case measure => have := HK.out; simp [intOf]; omega
    · have hlt' : ¬ (k : Int) < (n : Int) := by omega
      have hkn : k = n := by omega
      subst hkn
      have HBW := Lib.hid (HB1.out.trans (hbel.mono HB1.out.size))
      have HBK := Lib.hid hblk
      have HBE := Lib.hid hbel
      generalize hTT : maxT l k = T at *
      clear hbel hblk hk hlt HT HB2 HLT hTT
      by_cases h40 : (40 : Int) < (k : Int)
      · go_wp2_with fail
        go_ret
        exact ⟨rfl, HBW.out⟩
      · by_cases h41 : (40 : Int) < (n2 : Int)
        · go_wp2_with fail
          go_ret
          exact ⟨rfl, HBW.out⟩
        · have s0 : wr.cell? ⟨w1.heap.size, 0, none⟩ = some (.int .i64 T) := by rw [HBK.out.cell]; rfl
          have s1 : wr.cell? ⟨w1.heap.size, 1, none⟩ = some (.int .i64 (-1)) := by rw [HBK.out.cell]; rfl
          have s2 : wr.cell? ⟨w1.heap.size, 2, none⟩ = some (.slice A k c) := by rw [HBK.out.cell]; rfl
          have hrow : wr.heap[w1.heap.size]? = some (.cells #[.int .i64 T, .int .i64 (-1), .slice A k c] 25 (0, 0)) := HBK.out
          have HRI := Lib.hid (refRight6_any ⟨T, -1, l⟩ A k c wr (Sees.on HS.out HBW.out) HL.out (by have := HL.out; omega))
          go_wp2_with fail
          refine HRI.out.mono ?_
          rintro e w4 ⟨rfl, hb4⟩
          have HB4 := Lib.hid (bthen HBW.out hb4)
          have HBK4 := Lib.hid (HBK.out.below hb4 HBK.out.lt)
          clear s0 s1 s2 hrow hb4 HRI
          cases hri : rightS ⟨T, -1, l⟩
          · go_wp2_with fail
            go_ret
            exact ⟨rfl, HB4.out⟩
          · have hT0 := rightS_true _ hri
            simp only at hT0
            have s0 : w4.cell? ⟨w1.heap.size, 0, none⟩ = some (.int .i64 T) := by rw [HBK4.out.cell]; rfl
            have s1 : w4.cell? ⟨w1.heap.size, 1, none⟩ = some (.int .i64 (-1)) := by rw [HBK4.out.cell]; rfl
            have s2 : w4.cell? ⟨w1.heap.size, 2, none⟩ = some (.slice A k c) := by rw [HBK4.out.cell]; rfl
            have hrow : w4.heap[w1.heap.size]? = some (.cells #[.int .i64 T, .int .i64 (-1), .slice A k c] 25 (0, 0)) := HBK4.out
            have HNW := Lib.hid (nNew_any 0 5 9 1 ⟨T, -1, l⟩ A k c w4 (Sees.on HS.out HB4.out) HL.out (by have := HL.out; omega) hri (by decide) (by decide) (by decide) (by decide))
            have HT0 := Lib.hid hT0
            clear hri hT0
            go_wp2_with fail
            refine HNW.out.mono ?_
            rintro e w5 ⟨g, S5, rfl, hx5, hb5⟩
            have HX5 := Lib.hid hx5
            have HB5 := Lib.hid (bthen HB4.out hb5)
            have HZ5 := Lib.hid hb5.size
            have HZ4 := Lib.hid HB4.out.size
            have HBK5 := Lib.hid (HBK4.out.below hb5 HBK4.out.lt)
            clear s0 s1 s2 hrow hx5 hb5 HNW HBK4
            have s0 : w5.cell? ⟨w1.heap.size, 0, none⟩ = some (.int .i64 T) := by rw [HBK5.out.cell]; rfl
            go_upto_if 56 with (fail)
            go_cut [10] (fun v wx => v = .int .i64 (lastT l) ∧ wx = w5)
            case first => as_aux_lemma =>
              by_cases hk0 : (k : Int) = 0
              · have hnil : l = [] := List.eq_nil_of_length_eq_zero (by rw [HL.out]; omega)
                have HLT := Lib.hid (show lastT l = 0 by rw [hnil]; rfl)
                have hk1 : ¬ (0 : Int) < (k : Int) := by omega
                clear hnil hk0
                go_wp2_with fail
                go_meet
                exact ⟨by rw [HLT.out], rfl⟩
              · obtain ⟨q, hq⟩ : ∃ q, k = q + 1 := ⟨k - 1, by omega⟩
                have hkl : q < l.length := by rw [HL.out]; omega
                have HLT := Lib.hid (lastT_end l q (by rw [HL.out]; exact hq))
                obtain ⟨b, off, hA, hbl, d0, d1⟩ := Ents.at_ (Sees.on HS.out HB5.out) hkl
                subst hA
                have hk1 : (0 : Int) < (k : Int) := by omega
                have hkq : (k : Int) - 1 = (q : Int) := by omega
                have hk2 : IntKind.i64.wrap ((k : Int) - 1) = (q : Int) := by rw [hkq]; exact wr_i64 (by omega) (by omega)
                have hk3 : wrap64 ((k : Int) - 1) = (q : Int) := by rw [hkq]; exact wr_64 (by omega) (by omega)
                have hk6 : (q : Int) < (k : Int) := by omega
                obtain ⟨y, hy⟩ : ∃ y, l[q] = y := ⟨_, rfl⟩
                rw [hy] at d0 d1 HLT
                clear hy hkl hbl hq hkq hk0 h40 hlt'
                go_wp2_with fail
                go_meet
                exact ⟨by rw [HLT.out], rfl⟩
            case rest => as_aux_lemma =>
              obtain ⟨rfl, hwc⟩ := hcut
              have hwc2 := hwc.symm
              subst hwc2
              clear hwc
              have HLT := Lib.hid (HX5.out.has_lt)
              go_upto_region 19 with (fail)
              clear s0
              generalize hLT : lastT l = lt0 at *
              have HLL := Lib.hid hLT
              clear hLT HB4 HBK HBE HBW HBK5
              go_loopw [11, 12, 68] (fun tv vv iv wr => ∃ (j : Nat) (T2 V2 : Int), j ≤ n2 ∧ tv = .int .i64 T2 ∧ vv = .int .i64 V2 ∧ iv = .int .i64 (j : Int) ∧ (∃ y S, NodeAt wr w4.heap.size g y S ∧ VoteInv y l T2 V2) ∧ Below w.heap.size w wr ∧ w4.heap.size ≤ wr.heap.size) (fun _ _ iv _ => n2 - (intOf iv).toNat)
              case atStart => exact ⟨0, T, -1, Nat.zero_le _, rfl, rfl, rfl, ⟨_, S5, HX5.out, vote_new T l HT0.out.1 HT0.out.2⟩, HB5.out, HZ5.out⟩
              case round =>
                obtain ⟨j, T2, V2, hj, rfl, rfl, rfl, ⟨y, S, hy, hinv⟩, hbel, hsz⟩ := hrel
                by_cases hlt : j < n2
                · have hlt' : (j : Int) < (n2 : Int) := by omega
                  obtain ⟨b, off, hA2, hbl, hce⟩ := HM.out.2 (by omega)
                  obtain ⟨mm, hmm⟩ : ∃ mm, f j = mm := ⟨_, rfl⟩
                  obtain ⟨⟨mk, mf, mt, mterm, mi, mlt, mc, myes, mes⟩, mA, mn, mcp⟩ := mm
                  have hcl : ∀ i u, (MsgL.cells ⟨⟨mk, mf, mt, mterm, mi, mlt, mc, myes, mes⟩, mA, mn, mcp⟩)[i]? = some u → wr.cell? ⟨b, off + j * 9 + i, none⟩ = some u := fun i u hu => (hbel.cell (p := ⟨b, off + j * 9 + i, none⟩) hbl).trans (hce j hlt i u (by rw [hmm]; exact hu))
                  have a0 : wr.cell? ⟨b, off + j * 9, none⟩ = some (.int .i64 mk) := hcl 0 _ rfl
                  have a1 : wr.cell? ⟨b, off + j * 9 + 1, none⟩ = some (.int .i64 mf) := hcl 1 _ rfl
                  have a2 : wr.cell? ⟨b, off + j * 9 + 2, none⟩ = some (.int .i64 mt) := hcl 2 _ rfl
                  have a3 : wr.cell? ⟨b, off + j * 9 + 3, none⟩ = some (.int .i64 mterm) := hcl 3 _ rfl
                  have a4 : wr.cell? ⟨b, off + j * 9 + 4, none⟩ = some (.int .i64 mi) := hcl 4 _ rfl
                  have a5 : wr.cell? ⟨b, off + j * 9 + 5, none⟩ = some (.int .i64 mlt) := hcl 5 _ rfl
                  have a6 : wr.cell? ⟨b, off + j * 9 + 6, none⟩ = some (.int .i64 mc) := hcl 6 _ rfl
                  have a7 : wr.cell? ⟨b, off + j * 9 + 7, none⟩ = some (.bool myes) := hcl 7 _ rfl
                  have a8 : wr.cell? ⟨b, off + j * 9 + 8, none⟩ = some (.slice mA mn mcp) := hcl 8 _ rfl
                  subst hA2
                  have HK := Lib.hid hlt
                  have HINV := Lib.hid hinv
                  have HY := Lib.hid hy
                  have HBE := Lib.hid (And.intro hbel hsz)
                  have hM1 := Blk.new wr 61 #[.int .i64 3, .int .i64 mf, .int .i64 0, .int .i64 mterm, .int .i64 mi, .int .i64 mlt, .int .i64 mc, .bool myes, .slice none 0 0]
                  have hbA := (Below.refl wr.heap.size wr).alloc (Nat.le_refl _) (.cells #[.int .i64 3, .int .i64 mf, .int .i64 0, .int .i64 mterm, .int .i64 mi, .int .i64 mlt, .int .i64 mc, .bool myes, .slice none 0 0] 61)
                  clear hbel hsz hy hinv hlt hcl hmm hce hbl hj
                  go_upto_region 22 with (fail)
                  generalize wr.alloc (.cells #[.int .i64 3, .int .i64 mf, .int .i64 0, .int .i64 mterm, .int .i64 mi, .int .i64 mlt, .int .i64 mc, .bool myes, .slice none 0 0] 61) = w6 at *
                  clear a0 a1 a2 a3 a4 a5 a6 a7 a8
                  have HM1 := Lib.hid hM1
                  have HY6 := Lib.hid (HY.out.on hbA)
                  have HB6 := Lib.hid (And.intro (bthen HBE.out.1 hbA) (Nat.le_trans HBE.out.2 hbA.size))
                  have HNS := Lib.hid (show ¬ S wr.heap.size from fun h => by have := HY.out.has_lt _ h; omega)
                  have HLW := Lib.hid hM1.lt
                  obtain ⟨⟨e0, e1, e2, e3⟩, ⟨e4, e5, e6⟩, ⟨e7, e8⟩⟩ := msg_cells hM1
                  have hrow : w6.heap[wr.heap.size]? = some (.cells #[.int .i64 3, .int .i64 mf, .int .i64 0, .int .i64 mterm, .int .i64 mi, .int .i64 mlt, .int .i64 mc, .bool myes, .slice none 0 0] 61 (0, 0)) := hM1
                  have HST := Lib.hid (step3_any _ g y (askM mf mterm mi mlt mc myes) rfl none 0 0 S w6 HY6.out (by rw [HINV.out.n]; omega) (by rw [HINV.out.n]; omega) (Ents.nil _ _ _) rfl (by rw [HINV.out.log, HL.out]; omega) HB6.out.2 (by rw [HINV.out.out]; simp))
                  clear hM1 hbA
                  go_wp2_with fail
                  refine HST.out.mono ?_
                  rintro e w7 ⟨rfl, S7, hy7, ht7, hs7⟩
                  have HM7 := Lib.hid (ht7.blk HM1.out HNS.out)
                  have HB7 := Lib.hid (And.intro (HB6.out.1.trans (ht7.below HB6.out.1.size (fun i hi => Nat.le_trans HZ4.out (HY6.out.base_has i hi)))) (Nat.le_trans HB6.out.2 ht7.size))
                  have HNS7 := Lib.hid (show ¬ S7 wr.heap.size from fun h => by
                    rcases hs7 _ h with h1 | h1
                    · exact HNS.out h1
                    · have := HLW.out; omega)
                  have HY7 := Lib.hid hy7
                  clear e0 e1 e2 e3 e4 e5 e6 e7 e8 hrow ht7 hs7 hy7 HST
                  by_cases hg : 1 ≤ mf ∧ mf ≤ 4 ∧ T2 ≤ mterm ∧ mterm ≤ 1099511627776
                  · have hvs := votes_some y l T2 V2 HINV.out mf mterm mi mlt mc myes hg
                    generalize step3F y (askM mf mterm mi mlt mc myes) = z at *
                    have hzn : z.n = 5 := hvs.2.n
                    obtain ⟨yes, hyes⟩ : ∃ yes, yesN l T2 V2 mf mterm mi mlt = yes := ⟨_, rfl⟩
                    rw [hyes] at hvs
                    have HVS := Lib.hid hvs
                    have HYE := Lib.hid hyes
                    have HG := Lib.hid hg
                    have HOU := Lib.hid (nOut_any _ g z S7 w7 HY7.out (by rw [hzn]; omega))
                    clear hvs hyes hzn hg
                    go_wp2_with fail
                    refine HOU.out.mono ?_
                    intro e w8 ho
                    obtain ⟨bo, oo, co, S8, rfl, hlo, hno, ⟨o0, o2, o3, o7⟩, hy8, ht8⟩ := out_one ho HVS.out.1
                    simp only at o0 o2 o3 o7
                    have HM8 := Lib.hid (ht8.blk HM7.out HNS7.out)
                    have HB8 := Lib.hid (And.intro (HB7.out.1.trans (ht8.below HB7.out.1.size (fun i hi => Nat.le_trans HZ4.out (HY7.out.base_has i hi)))) (Nat.le_trans HB7.out.2 ht8.size))
                    have HY8 := Lib.hid hy8
                    have HOC := Lib.hid (And.intro o0 (And.intro o2 (And.intro o3 o7)))
                    have HLO := Lib.hid hlo
                    clear ho hlo hno hy8 ht8 o0 o2 o3 o7 HOU HM7 HB7 HY7 HNS7
                    obtain ⟨⟨e0, e1, e2, e3⟩, ⟨e4, e5, e6⟩, ⟨e7, e8⟩⟩ := msg_cells HM8.out
                    go_upto_region 24 with (fail)
                    go_cut [98] (fun v wx => v = .bool false ∧ wx = w8)
                    case first => as_aux_lemma =>
                      have hg := HG.out
                      have q1 : ¬ mf < 1 := by omega
                      have q2 : ¬ (4 : Int) < mf := by omega
                      have q3 : ¬ mterm < T2 := by omega
                      have q4 : ¬ (1099511627776 : Int) < mterm := by omega
                      clear hg
                      go_wp2_with fail
                      go_meet
                      exact ⟨rfl, rfl⟩
                    case rest => as_aux_lemma =>
                      obtain ⟨rfl, hwc⟩ := hcut
                      have hwc2 := hwc.symm
                      subst hwc2
                      clear hwc
                      go_upto_if 105 with (fail)
                      go_cut [11, 12] (fun tv vv wx => tv = .int .i64 mterm ∧ vv = .int .i64 (voteN T2 V2 mterm) ∧ wx = w8)
                      case first => as_aux_lemma =>
                        have hg := HG.out
                        by_cases ht : T2 < mterm
                        · have HVN := Lib.hid (show voteN T2 V2 mterm = -1 from if_pos ht)
                          clear hg
                          go_wp2_with fail
                          go_meet
                          exact ⟨rfl, by rw [HVN.out], rfl⟩
                        · have HVN := Lib.hid (show voteN T2 V2 mterm = V2 from if_neg ht)
                          have HTE := Lib.hid (show T2 = mterm by omega)
                          clear hg
                          go_wp2_with fail
                          go_meet
                          exact ⟨by rw [HTE.out], by rw [HVN.out], rfl⟩
                      case rest => as_aux_lemma =>
                        obtain ⟨rfl, rfl, hwc⟩ := hcut
                        have hwc2 := hwc.symm
                        subst hwc2
                        clear hwc
                        have hyq := HYE.out
                        unfold yesN youngF at hyq
                        rw [HLL.out, HL.out] at hyq
                        have HVB := Lib.hid (show -1 ≤ voteN T2 V2 mterm by have := HINV.out.v0; unfold voteN; split <;> omega)
                        generalize voteN T2 V2 mterm = VN at *
                        have HYQ := Lib.hid hyq.symm
                        clear hyq HYE
                        go_upto_region 29 with (fail)
                        go_cut [16] (fun v wx => v = .bool yes ∧ wx = w8)
                        case first => as_aux_lemma =>
                          have hvb := HVB.out
                          by_cases b1 : VN < 0
                          · by_cases b3 : lt0 < mlt
                            · have hyv : yes = true := by rw [HYQ.out, decide_eq_true (show VN = -1 by omega), decide_eq_true b3]; rfl
                              subst hyv
                              go_wp2_with fail
                              go_meet
                              exact ⟨rfl, rfl⟩
                            · by_cases b4 : mlt = lt0
                              · have q4 : (mlt == lt0) = true := by rw [beq_iff_eq]; exact b4
                                by_cases b5 : (k : Int) ≤ mi
                                · have hyv : yes = true := by rw [HYQ.out, decide_eq_true (show VN = -1 by omega), decide_eq_false b3, decide_eq_true b4, decide_eq_true b5]; rfl
                                  clear b4
                                  subst hyv
                                  go_wp2_with fail
                                  go_meet
                                  exact ⟨rfl, rfl⟩
                                · have hyv : yes = false := by rw [HYQ.out, decide_eq_true (show VN = -1 by omega), decide_eq_false b3, decide_eq_true b4, decide_eq_false b5]; rfl
                                  clear b4
                                  subst hyv
                                  go_wp2_with fail
                                  go_meet
                                  exact ⟨rfl, rfl⟩
                              · have q4 : (mlt == lt0) = false := by rw [beq_eq_false_iff_ne]; exact b4
                                have hyv : yes = false := by rw [HYQ.out, decide_eq_true (show VN = -1 by omega), decide_eq_false b3, decide_eq_false b4]; rfl
                                subst hyv
                                go_wp2_with fail
                                go_meet
                                exact ⟨rfl, rfl⟩
                          · by_cases b2 : VN = mf
                            · have q2 : (VN == mf) = true := by rw [beq_iff_eq]; exact b2
                              by_cases b3 : lt0 < mlt
                              · have hyv : yes = true := by rw [HYQ.out, decide_eq_false (show ¬ VN = -1 by omega), decide_eq_true (show VN = mf from b2), decide_eq_true b3]; rfl
                                clear b2
                                subst hyv
                                go_wp2_with fail
                                go_meet
                                exact ⟨rfl, rfl⟩
                              · by_cases b4 : mlt = lt0
                                · have q4 : (mlt == lt0) = true := by rw [beq_iff_eq]; exact b4
                                  by_cases b5 : (k : Int) ≤ mi
                                  · have hyv : yes = true := by rw [HYQ.out, decide_eq_false (show ¬ VN = -1 by omega), decide_eq_true (show VN = mf from b2), decide_eq_false b3, decide_eq_true b4, decide_eq_true b5]; rfl
                                    clear b2
                                    clear b4
                                    subst hyv
                                    go_wp2_with fail
                                    go_meet
                                    exact ⟨rfl, rfl⟩
                                  · have hyv : yes = false := by rw [HYQ.out, decide_eq_false (show ¬ VN = -1 by omega), decide_eq_true (show VN = mf from b2), decide_eq_false b3, decide_eq_true b4, decide_eq_false b5]; rfl
                                    clear b2
                                    clear b4
                                    subst hyv
                                    go_wp2_with fail
                                    go_meet
                                    exact ⟨rfl, rfl⟩
                                · have q4 : (mlt == lt0) = false := by rw [beq_eq_false_iff_ne]; exact b4
                                  have hyv : yes = false := by rw [HYQ.out, decide_eq_false (show ¬ VN = -1 by omega), decide_eq_true (show VN = mf from b2), decide_eq_false b3, decide_eq_false b4]; rfl
                                  clear b2
                                  subst hyv
                                  go_wp2_with fail
                                  go_meet
                                  exact ⟨rfl, rfl⟩
                            · have q2 : (VN == mf) = false := by rw [beq_eq_false_iff_ne]; exact b2
                              have hyv : yes = false := by rw [HYQ.out, decide_eq_false (show ¬ VN = -1 by omega), decide_eq_false (show ¬ VN = mf from b2)]; rfl
                              subst hyv
                              go_wp2_with fail
                              go_meet
                              exact ⟨rfl, rfl⟩
                        case rest => as_aux_lemma =>
                          obtain ⟨rfl, hwc⟩ := hcut
                          have hwc2 := hwc.symm
                          subst hwc2
                          clear hwc HYQ HVB
                          go_upto_if 135 with (fail)
                          go_cut [12] (fun vv wx => vv = .int .i64 (if yes = true then mf else VN) ∧ wx = w8)
                          case first => as_aux_lemma =>
                            cases yes
                            · go_wp2_with fail
                              go_meet
                              exact ⟨rfl, rfl⟩
                            · go_wp2_with fail
                              go_meet
                              exact ⟨rfl, rfl⟩
                          case rest => as_aux_lemma =>
                            obtain ⟨rfl, hwc⟩ := hcut
                            have hwc2 := hwc.symm
                            subst hwc2
                            clear hwc
                            have hvi := HVS.out.2
                            generalize (if yes = true then mf else VN) = V3 at *
                            have HVI := Lib.hid hvi
                            have hsn : ({ z with out := [] } : NodeM).n = 5 := hvi.n
                            have hst := fun W (hW : Below w8.heap.size w8 W) => nState_any _ g _ S8 W (HY8.out.on hW) (by rw [hsn]; omega) (by rw [hvi.log, HL.out]; omega)
                            rw [hvi.term, hvi.vote] at hst
                            have hte := fun W (hW : Below w8.heap.size w8 W) => nTerm_any _ g _ S8 W (HY8.out.on hW) (by rw [hsn]; omega)
                            rw [hvi.term] at hte
                            have HSTA := Lib.hid hst
                            have HTER := Lib.hid hte
                            obtain ⟨o0, o2, o3, o7⟩ := HOC.out
                            clear hvi hsn hst hte HVS
                            go_upto_region 32 with (fail)
                            go_cut [185] (fun v wx => v = .bool false ∧ Below w8.heap.size w8 wx)
                            case first => as_aux_lemma =>
                              have hq1 : (mf != mf) = false := by simp
                              have hq2 : (mterm != mterm) = false := by simp
                              have hq3 : (yes != yes) = false := by simp
                              have hq4 : (V3 != V3) = false := by simp
                              have HO := Lib.hid (And.intro o0 (And.intro o2 (And.intro o3 (And.intro o7 e1))))
                              have HBO := Lib.hid (And.intro HLO.out HM8.out.lt)
                              have hfld : ∀ (A : Option Addr) (n c : Nat) (W : World), (Instr.field 25 (.agg #[.int .i64 mterm, .int .i64 V3, .slice A n c]) 1).run Try.prog W = .ok (.int .i64 V3) W := fun A n c W => st_field _ _ _ W
                              go_region_held3 (fun W => W.cell? ⟨bo, oo, none⟩ = some (.int .i64 4) ∧ W.cell? ⟨bo, oo + 2, none⟩ = some (.int .i64 mf) ∧ W.cell? ⟨bo, oo + 3, none⟩ = some (.int .i64 mterm) ∧ W.cell? ⟨bo, oo + 7, none⟩ = some (.bool yes) ∧ W.cell? ⟨wr.heap.size, 1, none⟩ = some (.int .i64 mf)) ((first | exact ⟨o0, o2, o3, o7, e1⟩ | exact ⟨p0, p2, p3, p7, p1⟩)) (first
                                | (refine (HSTA.out _ (by first | exact (Below.refl _ _).drew | exact Below.refl _ _)).mono ?_; rintro e w9 ⟨A9, n9, c9, rfl, _, _, hb9⟩; have hb10 := Below.trans (by first | exact (Below.refl _ _).drew | exact Below.refl _ _) hb9; have p0 := (hb10.cell (p := ⟨bo, oo, none⟩) HBO.out.1).trans HO.out.1; have p2 := (hb10.cell (p := ⟨bo, oo + 2, none⟩) HBO.out.1).trans HO.out.2.1; have p3 := (hb10.cell (p := ⟨bo, oo + 3, none⟩) HBO.out.1).trans HO.out.2.2.1; have p7 := (hb10.cell (p := ⟨bo, oo + 7, none⟩) HBO.out.1).trans HO.out.2.2.2.1; have p1 := (hb10.cell (p := ⟨wr.heap.size, 1, none⟩) HBO.out.2).trans HO.out.2.2.2.2)
                                | (refine (HTER.out _ (by exact hb10)).mono ?_; rintro e w10 ⟨rfl, rfl⟩))
                              all_goals
                                go_wp2_with fail
                                go_meet
                                first | exact ⟨rfl, hb10⟩ | exact ⟨rfl, hb10.drew⟩
                            case rest => as_aux_lemma =>
                              obtain ⟨rfl, hbc⟩ := hcut
                              have hj40 : (j : Int) ≤ 40 := by have := HK.out; omega
                              have HY9 := Lib.hid (HY8.out.on hbc)
                              have HB9 := Lib.hid (And.intro (bthen HB8.out.1 hbc) (Nat.le_trans HB8.out.2 hbc.size))
                              clear hbc o0 o2 o3 o7 e0 e1 e2 e3 e4 e5 e6 e7 e8
                              go_wp2_with fail
                              go_roundw
                              case rel => exact ⟨j + 1, mterm, V3, HK.out, rfl, rfl, by go_num, ⟨_, S8, HY9.out, HVI.out⟩, HB9.out.1, HB9.out.2⟩
                              case measure => have := HK.out; simp [intOf]; omega
                  · have hvn := votes_none y l T2 V2 HINV.out mf mterm mi mlt mc myes hg
                    rw [hvn] at HY7
                    have HOU := Lib.hid (nOut_any _ g y S7 w7 HY7.out (by rw [HINV.out.n]; omega))
                    have HG := Lib.hid hg
                    clear hvn hg
                    go_wp2_with fail
                    refine HOU.out.mono ?_
                    intro e w8 ho
                    obtain ⟨Ao, co, S8, rfl, hy8, ht8⟩ := out_none ho HINV.out.out
                    have HM8 := Lib.hid (ht8.blk HM7.out HNS7.out)
                    have HB8 := Lib.hid (And.intro (HB7.out.1.trans (ht8.below HB7.out.1.size (fun i hi => Nat.le_trans HZ4.out (HY7.out.base_has i hi)))) (Nat.le_trans HB7.out.2 ht8.size))
                    have HY8 := Lib.hid hy8
                    clear ho hy8 ht8 HOU HM7 HB7 HY7 HNS7
                    obtain ⟨⟨e0, e1, e2, e3⟩, ⟨e4, e5, e6⟩, ⟨e7, e8⟩⟩ := msg_cells HM8.out
                    go_upto_region 24 with (fail)
                    go_cut [98] (fun v wx => v = .bool true ∧ wx = w8)
                    case first => as_aux_lemma =>
                      have hg := HG.out
                      by_cases q1 : mf < 1
                      · clear hg
                        go_wp2_with fail
                        go_meet
                        exact ⟨rfl, rfl⟩
                      · by_cases q2 : (4 : Int) < mf
                        · clear hg
                          go_wp2_with fail
                          go_meet
                          exact ⟨rfl, rfl⟩
                        · by_cases q3 : mterm < T2
                          · clear hg
                            go_wp2_with fail
                            go_meet
                            exact ⟨rfl, rfl⟩
                          · have q4 : (1099511627776 : Int) < mterm := by omega
                            clear hg
                            go_wp2_with fail
                            go_meet
                            exact ⟨rfl, rfl⟩
                    case rest => as_aux_lemma =>
                      obtain ⟨rfl, hwc⟩ := hcut
                      have hwc2 := hwc.symm
                      subst hwc2
                      clear hwc
                      have hj40 : (j : Int) ≤ 40 := by have := HK.out; omega
                      go_wp2_with fail
                      go_roundw
                      case rel => exact ⟨j + 1, T2, V2, HK.out, rfl, rfl, by go_num, ⟨_, S8, HY8.out, ⟨HINV.out.id, HINV.out.n, HINV.out.term, HINV.out.vote, HINV.out.log, HINV.out.role, rfl, HINV.out.t0, HINV.out.t1, HINV.out.v0⟩⟩, HB8.out.1, HB8.out.2⟩
                      case measure => have := HK.out; simp [intOf]; omega
                · have hlt' : ¬ (j : Int) < (n2 : Int) := by omega
                  have HFI := Lib.hid hbel
                  clear hbel hsz hy hinv hlt hj
                  go_wp2_with fail
                  go_ret
                  exact ⟨rfl, HFI.out⟩
end Go.Proofs.Ytmhgbpgbnfdokaa.raftVotes
