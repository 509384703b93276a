/- RaftLeads: a leader commits just what a majority, itself counted, told that it has, and of its own term alone. For every input, without a condition. -/
import Derived.Test.YtpgohajnohebnaaRows
import Derived.ProofKit
import Derived.OpenShut
import Derived.Test.YtpgohajnohebnaaJ13
import Derived.Test.YtpgohajnohebnaaJ15
import Derived.Test.YtpgohajnohebnaaJ16
import Derived.Test.YtpgohajnohebnaaJ20
namespace Go.Proofs.Ytpgohajnohebnaa.raftLeads
open Go.ChangeShapes Go.WideShapes Go.ChangeAt Go.RowKit
set_option linter.unusedVariables false

theorem own : ownKnob Try.prog.godebug = none := by kernel_rfl
theorem laidOut : laidOutB Try.prog = true := by kernel_rfl
theorem right_low (T : Int) (l : List Ent) (h : rightS ⟨T, -1, l⟩ = true) (h0 : 0 ≤ T ∧ T ≤ 1099511627776) (hl : l.length ≤ 1024) : ∀ j (hj : j < l.length), l[j].t < T + 1 := by
  intro j hj
  have he : entsOk 1 T l = true := by
    rw [← rightS_e ⟨T, -1, l⟩ h0 (by simp only; omega) hl]
    exact h
  rcases Int.lt_or_le T l[j].t with h9 | h9
  · have := entsOk_bad 1 T l j hj (fun h8 => by omega)
    rw [this] at he
    cases he
  · omega

set_option maxRecDepth 100000 in
set_option maxHeartbeats 12000000 in
theorem walk (n8 : Nat) (A : Option Addr) (n c : Nat) (l : List Ent) (A2 : Option Addr) (n2 c2 : Nat) (f : Nat → ToldL) (w : World) (hn8 : n8 < 256) (hs : Ents w w.heap.size A l) (hl : l.length = n) (hn : n ≤ maxLen) (hm : ToldsL w w.heap.size A2 n2 f) (hn2 : n2 ≤ maxLen) :
    Calls Try.prog 9 #[.int .u8 (n8 : Int), .slice A n c, .slice A2 n2 c2] w fun e w' => e = .returned (.bool true) ∧ Below w.heap.size w w' := by
  have HF := Lib.hid (fixed8_any w)
  have HS := Lib.hid hs
  have HL := Lib.hid hl
  have HM := Lib.hid hm
  have HNN := Lib.hid (show (n : Int) ≤ 9223372036854775807 by have : maxLen = 9223372036854775807 := rfl; omega)
  have HNN2 := Lib.hid (show (n2 : Int) ≤ 9223372036854775807 by have : maxLen = 9223372036854775807 := rfl; omega)
  clear hs hl hm hn hn2
  obtain ⟨q, hq⟩ : ∃ q : Nat, n8 % 6 = q := ⟨_, rfl⟩
  have hq6 : q < 6 := by omega
  obtain ⟨K, hK⟩ : ∃ K : Nat, K = 2 + q := ⟨_, rfl⟩
  have HK7 := Lib.hid (show 2 ≤ K ∧ K ≤ 7 by omega)
  have hm1 : ((n8 : Int) % 6) = (q : Int) := by omega
  have hm2 : ((n8 : Int).tmod 6) = (q : Int) := by rw [Int.tmod_eq_emod_of_nonneg (by omega)]; omega
  have hm3 : IntKind.u8.wrap (q : Int) = (q : Int) := by rw [IntKind.wrap_u8]; omega
  have hm4 : IntKind.i64.wrap (q : Int) = (q : Int) := wr_i64 (by omega) (by omega)
  have hm5 : IntKind.i64.wrap (2 + (q : Int)) = (K : Int) := by rw [wr_i64 (by omega) (by omega)]; omega
  have hm6 : 2 + (q : Int) = (K : Int) := by omega
  have hm7 : wrap64 (K : Int) = (K : Int) := wr_64 (by omega) (by omega)
  have hm8 : IntKind.i64.wrap (K : Int) = (K : Int) := wr_i64 (by omega) (by omega)
  clear hq hK
  go_enter Try.func9, Try.ntmps9
  go_wp2_with fail
  refine HF.out.mono ?_
  rintro e w1 ⟨rfl, hb1⟩
  have hT := Blk.new w1 25 #[.int .i64 0, .int .i64 (-1), .slice A n c]
  have hb2 := (Below.refl w1.heap.size w1).alloc (Nat.le_refl _) (.cells #[.int .i64 0, .int .i64 (-1), .slice A n c] 25)
  go_upto_region 6 with (fail)
  clear hm1 hm2 hm3 hm4 hm5 hm6 hm7 hm8 hq6
  generalize w1.alloc (.cells #[.int .i64 0, .int .i64 (-1), .slice A n c] 25) = w2 at *
  have HT := Lib.hid hT
  have HB1 := Lib.hid hb1
  have HB2 := Lib.hid hb2
  clear hT hb1 hb2
  go_loopw [35] (fun iv wr => ∃ k : Nat, k ≤ n ∧ iv = .int .i64 (k : Int) ∧ Blk wr w1.heap.size 25 #[.int .i64 (maxT l k), .int .i64 (-1), .slice A n c] ∧ Below w1.heap.size w1 wr) (fun iv _ => n - (intOf iv).toNat)
  case atStart => exact ⟨0, Nat.zero_le _, rfl, HT.out, HB2.out⟩
  case round =>
    obtain ⟨k, hk, rfl, hblk, hbel⟩ := hrel
    by_cases hlt : k < n
    · as_aux_lemma =>
      have hkl : k < l.length := by rw [HL.out]; exact hlt
      obtain ⟨b, off, hA, hbl, d0, d1⟩ := Ents.at_ HS.out hkl
      have hbw := HB1.out.trans (hbel.mono HB1.out.size)
      have d0' := (hbw.cell (p := ⟨b, off + k * 2, none⟩) hbl).trans d0
      have d1' := (hbw.cell (p := ⟨b, off + k * 2 + 1, none⟩) hbl).trans d1
      have hlt' : (k : Int) < (n : Int) := by omega
      have hk1 : (k : Int) + 1 ≤ 9223372036854775807 := by have := HNN.out; omega
      have hsu := maxT_succ l k hkl
      obtain ⟨y, hy⟩ : ∃ y, l[k] = y := ⟨_, rfl⟩
      rw [hy] at d0' d1' hsu
      have HSU := Lib.hid hsu
      have HK := Lib.hid hlt
      have hA2 := Blk.new wr 73 #[.int .i64 y.t, .string y.s]
      have hbA := (Below.refl wr.heap.size wr).alloc (Nat.le_refl _) (.cells #[.int .i64 y.t, .string y.s] 73)
      have HB3 := Lib.hid (bthen hbel hbA)
      have HBK := Lib.hid (hblk.below hbA hblk.lt)
      generalize maxT l k = t0 at *
      subst hA
      clear hbel hblk hbw d0 d1 hbl hsu hy hk hlt hkl
      go_upto_region 8 with (fail)
      have g0 : (wr.alloc (.cells #[.int .i64 y.t, .string y.s] 73)).cell? ⟨wr.heap.size, 0, none⟩ = some (.int .i64 y.t) := by rw [hA2.cell]; rfl
      generalize wr.alloc (.cells #[.int .i64 y.t, .string y.s] 73) = w3 at *
      have s0 : w3.cell? ⟨w1.heap.size, 0, none⟩ = some (.int .i64 t0) := by rw [HBK.out.cell]; rfl
      have fs0 := HBK.out.frozen 0
      clear hA2 hbA d1' d0'
      go_wp2_with fail
      go_roundw
      case rel => exact ⟨k + 1, HK.out, by go_num, by rw [HSU.out]; exact HBK.out.set_ 0 (.int .i64 (max t0 y.t)), HB3.out.setCell (p := ⟨w1.heap.size, 0, none⟩) (Nat.le_refl _) (.int .i64 (max t0 y.t))⟩
      case measure => have := HK.out; simp [intOf]; omega
    · as_aux_lemma =>
      have hlt' : ¬ (k : Int) < (n : Int) := by omega
      have hkn : k = n := by omega
      subst hkn
      have HBW := Lib.hid (HB1.out.trans (hbel.mono HB1.out.size))
      have HBK := Lib.hid hblk
      generalize hTT : maxT l k = T at *
      clear hbel hblk hk hlt HT HB2 hTT
      by_cases h40 : (40 : Int) < (k : Int)
      · as_aux_lemma =>
        go_wp2_with fail
        go_ret
        exact ⟨rfl, HBW.out⟩
      · by_cases h41 : (60 : Int) < (n2 : Int)
        · as_aux_lemma =>
          go_wp2_with fail
          go_ret
          exact ⟨rfl, HBW.out⟩
        · as_aux_lemma =>
          have s0 : wr.cell? ⟨w1.heap.size, 0, none⟩ = some (.int .i64 T) := by rw [HBK.out.cell]; rfl
          have s1 : wr.cell? ⟨w1.heap.size, 1, none⟩ = some (.int .i64 (-1)) := by rw [HBK.out.cell]; rfl
          have s2 : wr.cell? ⟨w1.heap.size, 2, none⟩ = some (.slice A k c) := by rw [HBK.out.cell]; rfl
          have hrow : wr.heap[w1.heap.size]? = some (.cells #[.int .i64 T, .int .i64 (-1), .slice A k c] 25 (0, 0)) := HBK.out
          have HRI := Lib.hid (refRight6_any ⟨T, -1, l⟩ A k c wr (Sees.on HS.out HBW.out) HL.out (by have := HL.out; omega))
          have HL40 := Lib.hid (show k ≤ 40 ∧ n2 ≤ 60 by omega)
          clear h40 h41 hlt'
          have h40 : ¬ (40 : Int) < (k : Int) := by have := HL40.out; omega
          have h41 : ¬ (60 : Int) < (n2 : Int) := by have := HL40.out; omega
          go_wp2_with fail
          refine HRI.out.mono ?_
          rintro e w4 ⟨rfl, hb4⟩
          have HB4 := Lib.hid (bthen HBW.out hb4)
          have HBK4 := Lib.hid (HBK.out.below hb4 HBK.out.lt)
          clear s0 s1 s2 hrow hb4 HRI h40 h41
          have s0 : w4.cell? ⟨w1.heap.size, 0, none⟩ = some (.int .i64 T) := by rw [HBK4.out.cell]; rfl
          cases hri : rightS ⟨T, -1, l⟩
          · as_aux_lemma =>
            go_wp2_with fail
            go_ret
            exact ⟨rfl, HB4.out⟩
          · by_cases hT40 : (1099511627776 : Int) ≤ T
            · as_aux_lemma =>
              go_wp2_with fail
              go_ret
              exact ⟨rfl, HB4.out⟩
            · as_aux_lemma =>
              have hT0 := rightS_true _ hri
              simp only at hT0
              have s1 : w4.cell? ⟨w1.heap.size, 1, none⟩ = some (.int .i64 (-1)) := by rw [HBK4.out.cell]; rfl
              have s2 : w4.cell? ⟨w1.heap.size, 2, none⟩ = some (.slice A k c) := by rw [HBK4.out.cell]; rfl
              have hrow : w4.heap[w1.heap.size]? = some (.cells #[.int .i64 T, .int .i64 (-1), .slice A k c] 25 (0, 0)) := HBK4.out
              have HNW := Lib.hid (nNew_any 0 K 1 1 ⟨T, -1, l⟩ A k c w4 (Sees.on HS.out HB4.out) HL.out (by have := HL40.out; omega) hri (by have := HK7.out; omega) (by have := HK7.out; omega) (by decide) (by decide))
              have HT0 := Lib.hid (show 0 ≤ T ∧ T < 1099511627776 by omega)
              have HLO := Lib.hid (right_low T l hri hT0 (by rw [HL.out]; have := HL40.out; omega))
              clear hri hT0
              go_wp2_with fail
              refine HNW.out.mono ?_
              rintro e w5 ⟨g, S5, rfl, hx5, hb5⟩
              have HX5 := Lib.hid hx5
              have HB5 := Lib.hid hb5
              have HZ4 := Lib.hid HBK4.out.lt
              have HPT := Lib.hid (pre_tick K l T HK7.out.1 HT0.out.2)
              have HTI := Lib.hid (tick_any _ g _ 0 S5 w5 hx5 (show (0 : Int) < 1 by omega) (show (0 : Int) < 1 by omega) (show (1 : Int) ≤ 1099511627776 by omega) (show (0 : Int) ≤ 0 by omega) (show (0 : Int) ≤ 1099511627776 by omega) (show 0 < 128 by omega) HT0.out.1 (show (0 : Int) < (K : Int) by have := HK7.out; omega) (show (K : Int) ≤ 7 by have := HK7.out; omega) (show (0 : Int) ≤ 0 by omega) (show (0 : Int) < (K : Int) by have := HK7.out; omega) (show l.length ≤ 1048000 by rw [HL.out]; have := HL40.out; omega) hb5.size (show 0 ≤ 999980 by omega) (fun h => absurd h (show ¬ (0 : Int) = 3 by omega)) (fun h => absurd h (show ¬ (0 : Int) = 3 by omega)))
              clear s0 s1 s2 hrow hx5 hb5 HNW hT40
              go_wp2_with fail
              refine HTI.out.mono ?_
              rintro e w6 ⟨rfl, hm6⟩
              obtain ⟨S6, hx6, hb6⟩ := hm6.step (Nat.le_refl _) HB5.out HX5.out (Nat.le_refl _)
              have HX6 := Lib.hid hx6
              have HB6 := Lib.hid hb6
              clear hm6 hx6 hb6 HX5 HB5 HTI
              generalize tickF (newF 0 K 1 1 ⟨T, -1, l⟩) 0 = y6 at *
              go_upto_region 17 with (fail)
              go_loopw [13] (fun iv wr => ∃ j : Nat, j + 1 ≤ K ∧ iv = .int .i64 ((j : Int) + 1) ∧ (∃ y S, NodeAt wr w4.heap.size g y S ∧ ((2 * (j + 1) ≤ K ∧ PreInv y K l T 1 j 7) ∨ PreInv y K l (T + 1) 2 0 14)) ∧ Below w4.heap.size w4 wr) (fun iv _ => K - (intOf iv).toNat)
              case atStart => exact ⟨0, by have := HK7.out; omega, rfl, ⟨y6, S6, HX6.out, .inl ⟨by have := HK7.out; omega, HPT.out.mono HK7.out.2⟩⟩, HB6.out⟩
              case round =>
                obtain ⟨j, hj, rfl, ⟨y, S, hy, hinv⟩, hbel⟩ := hrel
                by_cases hlt : j + 1 < K
                · as_aux_lemma =>
                  have hlt' : (j : Int) + 1 < (K : Int) := by omega
                  have hj7 : (j : Int) ≤ 7 := by have := HK7.out; omega
                  have hw1 : IntKind.i64.wrap ((j : Int) + 1 + 1) = (j : Int) + 1 + 1 := wr_i64 (by omega) (by omega)
                  have hw2 : IntKind.i64.wrap (T + 1) = T + 1 := wr_i64 (by have := HT0.out; omega) (by have := HT0.out; omega)
                  have s0 : wr.cell? ⟨w1.heap.size, 0, none⟩ = some (.int .i64 T) := by rw [(HBK4.out.below hbel HZ4.out).cell]; rfl
                  have hco : y.id = 0 ∧ y.n = (K : Int) ∧ y.log = l ∧ y.yes < 128 ∧ y.out.length ≤ 14 ∧ 0 ≤ y.term ∧ y.term ≤ 1099511627776 := by
                    have hT1 := HT0.out
                    rcases hinv with ⟨_, h⟩ | h
                    · exact ⟨h.id, h.n, h.log, by rw [h.yes]; exact (bits_up j (by have := HK7.out; omega)).2.2, Nat.le_trans h.out (by omega), by rw [h.term]; omega, by rw [h.term]; omega⟩
                    · exact ⟨h.id, h.n, h.log, by rw [h.yes]; decide, h.out, by rw [h.term]; omega, by rw [h.term]; omega⟩
                  have hnext : (2 * (j + 2) ≤ K ∧ PreInv (step2F y ⟨2, (j : Int) + 1, 0, T + 1, 0, 0, 0, true, []⟩) K l T 1 (j + 1) 7) ∨ PreInv (step2F y ⟨2, (j : Int) + 1, 0, T + 1, 0, 0, 0, true, []⟩) K l (T + 1) 2 0 14 := by
                    have hT1 := HT0.out
                    have e : ((j + 1 : Nat) : Int) = (j : Int) + 1 := by omega
                    rcases hinv with ⟨h0, h⟩ | h
                    · obtain ⟨p1, p2⟩ := pre_step2 h HK7.out.1 HK7.out.2 hlt hT1.1 hT1.2
                      rw [e] at p1 p2
                      by_cases h2 : 2 * (j + 2) ≤ K
                      · exact .inl ⟨h2, p1 h2⟩
                      · exact .inr ((p2 (by omega)).mono (by have := HK7.out; omega))
                    · rw [pre_idle2 h ((j : Int) + 1) (by omega) hT1.1 hT1.2]
                      exact .inr h
                  have HST := Lib.hid (step2_any _ g y ⟨2, (j : Int) + 1, 0, T + 1, 0, 0, 0, true, []⟩ rfl none 0 0 S wr hy (by rw [hco.2.1]; have := HK7.out; omega) (by rw [hco.2.1]; have := HK7.out; omega) (Ents.nil _ _ _) rfl hco.2.2.2.1 (by rw [hco.1]; omega) (by rw [hco.1, hco.2.1]; have := HK7.out; omega) hco.2.2.2.2.2.1 hco.2.2.2.2.2.2 (by rw [hco.2.2.1, HL.out]; have := HL40.out; omega) hbel.size (by have := hco.2.2.2.2.1; omega))
                  have HNX := Lib.hid hnext
                  have HY := Lib.hid hy
                  have HBE := Lib.hid hbel
                  have HLT := Lib.hid hlt
                  clear hinv hy hbel hco hnext hj hlt
                  go_wp2_with fail
                  refine HST.out.mono ?_
                  rintro e w7 ⟨rfl, hm7⟩
                  obtain ⟨S7, hx7, hb7⟩ := hm7.step (Nat.le_refl _) HBE.out HY.out (Nat.le_refl _)
                  have HX7 := Lib.hid hx7
                  have HB7 := Lib.hid hb7
                  clear hm7 hx7 hb7 s0
                  go_wp2_with fail
                  go_roundw
                  case rel => exact ⟨j + 1, HLT.out, by go_num, ⟨_, S7, HX7.out, HNX.out⟩, HB7.out⟩
                  case measure => have := HLT.out; simp [intOf]; omega
                · as_aux_lemma =>
                  have hlt' : ¬ (j : Int) + 1 < (K : Int) := by omega
                  have hpi : PreInv y K l (T + 1) 2 0 14 := by
                    rcases hinv with ⟨h0, _⟩ | h
                    · omega
                    · exact h
                  have HPI := Lib.hid hpi
                  have HY := Lib.hid hy
                  have HBE := Lib.hid hbel
                  clear hinv hy hbel hpi hj hlt HX6 HB6 HPT
                  go_upto_region 21 with (fail)
                  clear hlt'
                  go_loopw [14] (fun iv wr => ∃ j : Nat, j + 1 ≤ K ∧ iv = .int .i64 ((j : Int) + 1) ∧ (∃ y S, NodeAt wr w4.heap.size g y S ∧ ((2 * (j + 1) ≤ K ∧ PreInv y K l (T + 1) 2 j 14) ∨ (LeadInv y K l.length (T + 1) (List.replicate K 0) 21 ∧ y.log.length = l.length + 1 ∧ y.yes < 128 ∧ y.commit = 0))) ∧ Below w4.heap.size w4 wr) (fun iv _ => K - (intOf iv).toNat)
                  case atStart => exact ⟨0, by have := HK7.out; omega, rfl, ⟨y, S, HY.out, .inl ⟨by have := HK7.out; omega, HPI.out⟩⟩, HBE.out⟩
                  case round =>
                    obtain ⟨j, hj, rfl, ⟨y, S, hy, hinv⟩, hbel⟩ := hrel
                    by_cases hlt : j + 1 < K
                    · as_aux_lemma =>
                      have hlt' : (j : Int) + 1 < (K : Int) := by omega
                      have hj7 : (j : Int) ≤ 7 := by have := HK7.out; omega
                      have hw1 : IntKind.i64.wrap ((j : Int) + 1 + 1) = (j : Int) + 1 + 1 := wr_i64 (by omega) (by omega)
                      have hw2 : IntKind.i64.wrap (T + 1) = T + 1 := wr_i64 (by have := HT0.out; omega) (by have := HT0.out; omega)
                      have s0 : wr.cell? ⟨w1.heap.size, 0, none⟩ = some (.int .i64 T) := by rw [(HBK4.out.below hbel HZ4.out).cell]; rfl
                      have hco : y.id = 0 ∧ y.n = (K : Int) ∧ y.log.length ≤ 41 ∧ y.yes < 128 ∧ y.out.length ≤ 21 := by
                        have h40 := HL40.out
                        rcases hinv with ⟨_, h⟩ | ⟨h, h2, h3, _⟩
                        · exact ⟨h.id, h.n, by rw [h.log, HL.out]; omega, by rw [h.yes]; exact (bits_up j (by have := HK7.out; omega)).2.2, Nat.le_trans h.out (by omega)⟩
                        · exact ⟨h.id, h.n, by rw [h2, HL.out]; omega, h3, h.out⟩
                      have hnext : (2 * (j + 2) ≤ K ∧ PreInv (step4F y ⟨4, (j : Int) + 1, 0, T + 1, 0, 0, 0, true, []⟩) K l (T + 1) 2 (j + 1) 14) ∨ (LeadInv (step4F y ⟨4, (j : Int) + 1, 0, T + 1, 0, 0, 0, true, []⟩) K l.length (T + 1) (List.replicate K 0) 21 ∧ (step4F y ⟨4, (j : Int) + 1, 0, T + 1, 0, 0, 0, true, []⟩).log.length = l.length + 1 ∧ (step4F y ⟨4, (j : Int) + 1, 0, T + 1, 0, 0, 0, true, []⟩).yes < 128 ∧ (step4F y ⟨4, (j : Int) + 1, 0, T + 1, 0, 0, 0, true, []⟩).commit = 0) := by
                        have hT1 := HT0.out
                        have e : ((j + 1 : Nat) : Int) = (j : Int) + 1 := by omega
                        rcases hinv with ⟨h0, h⟩ | h
                        · obtain ⟨p1, p2⟩ := pre_step4 h HK7.out.1 HK7.out.2 hlt (by omega) (by omega) (by rw [HL.out]; have := HL40.out; omega) HLO.out
                          rw [e] at p1 p2
                          by_cases h2 : 2 * (j + 2) ≤ K
                          · exact .inl ⟨h2, p1 h2⟩
                          · obtain ⟨q1, q2, q3, q4⟩ := p2 (by omega)
                            exact .inr ⟨q1.mono (by have := HK7.out; omega), q2, q3, q4⟩
                        · rw [lead_idle4 h.1 ((j : Int) + 1) (by omega) (by omega) (by omega)]
                          exact .inr h
                      have HST := Lib.hid (step4_any _ g y ⟨4, (j : Int) + 1, 0, T + 1, 0, 0, 0, true, []⟩ rfl none 0 0 S wr hy (by rw [hco.2.1]; have := HK7.out; omega) (by rw [hco.2.1]; have := HK7.out; omega) (Ents.nil _ _ _) rfl hco.2.2.2.1 (by rw [hco.1]; omega) (by rw [hco.1, hco.2.1]; have := HK7.out; omega) (by have := hco.2.2.1; omega) hbel.size (by have := hco.2.2.2.2; omega))
                      have HNX := Lib.hid hnext
                      have HY := Lib.hid hy
                      have HBE := Lib.hid hbel
                      have HLT := Lib.hid hlt
                      clear hinv hy hbel hco hnext hj hlt
                      go_wp2_with fail
                      refine HST.out.mono ?_
                      rintro e w7 ⟨rfl, hm7⟩
                      obtain ⟨S7, hx7, hb7⟩ := hm7.step (Nat.le_refl _) HBE.out HY.out (Nat.le_refl _)
                      have HX7 := Lib.hid hx7
                      have HB7 := Lib.hid hb7
                      clear hm7 hx7 hb7 s0
                      go_wp2_with fail
                      go_roundw
                      case rel => exact ⟨j + 1, HLT.out, by go_num, ⟨_, S7, HX7.out, HNX.out⟩, HB7.out⟩
                      case measure => have := HLT.out; simp [intOf]; omega
                    · as_aux_lemma =>
                      have hlt' : ¬ (j : Int) + 1 < (K : Int) := by omega
                      have hpi : LeadInv y K l.length (T + 1) (List.replicate K 0) 21 ∧ y.log.length = l.length + 1 ∧ y.commit = 0 := by
                        rcases hinv with ⟨h0, _⟩ | ⟨h, h2, _, h4⟩
                        · omega
                        · exact ⟨h, h2, h4⟩
                      have HLI := Lib.hid hpi
                      have HY := Lib.hid hy
                      have HBE := Lib.hid hbel
                      have hW := fun (W : World) (hW : Below wr.heap.size wr W) => hy.on hW
                      have hnp : 0 < y.n := by rw [hpi.1.n]; have := HK7.out; omega
                      have HRO := Lib.hid (fun W (hW : Below wr.heap.size wr W) => nRole_any _ g y S W (hy.on hW) hnp)
                      have HTE := Lib.hid (fun W (hW : Below wr.heap.size wr W) => nTerm_any _ g y S W (hy.on hW) hnp)
                      have HLA := Lib.hid (fun W (hW : Below wr.heap.size wr W) => nLast_any _ g y S W (hy.on hW) hnp (by rw [hpi.2.1, HL.out]; have := HL40.out; omega))
                      have HCO := Lib.hid (fun W (hW : Below wr.heap.size wr W) => nCommit_any _ g y S W (hy.on hW) hnp)
                      have s0 : wr.cell? ⟨w1.heap.size, 0, none⟩ = some (.int .i64 T) := by rw [(HBK4.out.below hbel HZ4.out).cell]; rfl
                      have hw2 : IntKind.i64.wrap (T + 1) = T + 1 := wr_i64 (by have := HT0.out; omega) (by have := HT0.out; omega)
                      have hw3 : IntKind.i64.wrap ((k : Int) + 1) = (k : Int) + 1 := wr_i64 (by omega) (by have := HL40.out; omega)
                      rw [hpi.1.role] at HRO
                      rw [hpi.1.term] at HTE
                      rw [hpi.2.1, HL.out] at HLA
                      rw [hpi.2.2] at HCO
                      have hk1 : (((k + 1 : Nat) : Int)) = (k : Int) + 1 := by omega
                      rw [hk1] at HLA
                      clear hinv hy hbel hpi hj hlt hW hnp hk1
                      go_upto_region 24 with (fail)
                      clear hlt'
                      go_cut [121] (fun v wx => v = .bool false ∧ Below wr.heap.size wr wx)
                      case first => as_aux_lemma =>
                        have hq1 : ((T + 1) != (T + 1)) = false := by simp
                        have hq2 : (((k : Int) + 1) != ((k : Int) + 1)) = false := by simp
                        go_big_quiet (first
                          | (go_at_call 31; refine Calls.quiet_of_same (HRO.out _ (below_drewN (Below.refl _ _) _)))
                          | (go_at_call 36; refine Calls.quiet_of_same (HTE.out _ (below_drewN (Below.refl _ _) _)))
                          | (go_at_call 33; refine Calls.quiet_of_same (HLA.out _ (below_drewN (Below.refl _ _) _)))
                          | (go_at_call 35; refine Calls.quiet_of_same (HCO.out _ (below_drewN (Below.refl _ _) _))))
                        go_wp2_with fail
                        go_meet
                        exact ⟨rfl, below_drewN (Below.refl _ _) nq⟩
                      case rest => as_aux_lemma =>
                        obtain ⟨rfl, hbc⟩ := hcut
                        have HY1 := Lib.hid (HY.out.on hbc)
                        have HB1 := Lib.hid (bthen HBE.out hbc |> fun h => HBE.out.trans (hbc.mono HBE.out.size))
                        clear hbc s0 hw2 hw3 HRO HTE HLA HCO HY HBE
                        have hmk := fun W => run_make_row' (P := Try.prog) 85 3 (.int .i64 0) 8 sl_i64 i64_row rfl .i64 .i64 K (by have := HK7.out; omega) (by have := HK7.out; omega) W
                        go_upto_region 28 with (fail)
                        have hq0 : Blk (wc.alloc (.cells (madeCells #[.int .i64 0] K) 3)) wc.heap.size 3 (ints (List.replicate K 0)).toArray := by
                          have h9 := Blk.new wc 3 (madeCells #[.int .i64 0] K)
                          have e9 : madeCells #[.int .i64 0] K = (ints (List.replicate K 0)).toArray := by
                            apply Array.toList_inj.1
                            rw [toList_madeCells_one]
                            simp [ints]
                          rw [e9] at h9
                          rw [← e9] at h9
                          rw [e9] at h9 ⊢
                          exact h9
                        have hbA := (Below.refl wc.heap.size wc).alloc (Nat.le_refl _) (.cells (madeCells #[.int .i64 0] K) 3)
                        generalize wc.alloc (.cells (madeCells #[.int .i64 0] K) 3) = w8 at *
                        have HQ0 := Lib.hid hq0
                        have HY8 := Lib.hid (HY1.out.on hbA)
                        have HB8 := Lib.hid (HB1.out.trans (hbA.mono HB1.out.size))
                        have HBHL := Lib.hid HB1.out.size
                        clear hmk hq0 hbA HY1 HB1
                        generalize hbhe : wc.heap.size = bh at *
                        clear hbhe
                        go_loopw [126] (fun iv wr => ∃ j : Nat, j ≤ n2 ∧ iv = .int .i64 (j : Int) ∧ (∃ hv y S, NodeAt wr w4.heap.size g y S ∧ LeadInv y K l.length (T + 1) hv (21 + 16 * j) ∧ y.log.length ≤ l.length + 1 + j ∧ Blk wr bh 3 (ints hv).toArray) ∧ Below w4.heap.size w4 wr) (fun iv _ => n2 - (intOf iv).toNat)
                        case atStart => exact ⟨0, Nat.zero_le _, rfl, ⟨_, y, S, HY8.out, HLI.out.1, by have := HLI.out.2.1; omega, HQ0.out⟩, HB8.out⟩
                        case round =>
                          obtain ⟨j, hj, rfl, ⟨hv, y, S, hy, hinv, hyl, hbh⟩, hbel⟩ := hrel
                          by_cases hlt : j < n2
                          · as_aux_lemma =>
                            have hlt' : (j : Int) < (n2 : Int) := by omega
                            obtain ⟨b, off, hA2, hbl, hce⟩ := HM.out.2 (by omega)
                            have hti := HM.out.1 j hlt
                            have hce := hce j hlt
                            obtain ⟨mm, hmm⟩ : ∃ mm, f j = mm := ⟨_, rfl⟩
                            rw [hmm] at hce hti
                            obtain ⟨tf, ti, ty, tp⟩ := mm
                            simp only at hce hti
                            have hbw := bthen HB4.out (hbel.mono (Nat.le_refl _))
                            have a0 := (hbw.cell (p := ⟨b, off + j * 4, none⟩) hbl).trans hce.1
                            have a1 := (hbw.cell (p := ⟨b, off + j * 4 + 1, none⟩) hbl).trans hce.2.1
                            have a2 := (hbw.cell (p := ⟨b, off + j * 4 + 2, none⟩) hbl).trans hce.2.2.1
                            have a3 := (hbw.cell (p := ⟨b, off + j * 4 + 3, none⟩) hbl).trans hce.2.2.2
                            subst hA2
                            have hj60 : (j : Int) ≤ 60 := by have := HL40.out; omega
                            have hTD := Blk.new wr 87 #[.int .i64 tf, .int .i64 ti, .bool ty, .bool tp]
                            have hbA := (Below.refl wr.heap.size wr).alloc (Nat.le_refl _) (.cells #[.int .i64 tf, .int .i64 ti, .bool ty, .bool tp] 87)
                            have HK := Lib.hid hlt
                            have HTI := Lib.hid hti
                            have HINV := Lib.hid hinv
                            have HYL := Lib.hid hyl
                            have HWS := Lib.hid hbel.size
                            clear hlt hti hmm hce hbw hj hinv hyl
                            go_upto_region 30 with (fail)
                            clear a0 a1 a2 a3
                            have HY9 := Lib.hid (hy.on hbA)
                            have HBH9 := Lib.hid (hbh.below hbA hbh.lt)
                            have HB9 := Lib.hid (hbel.trans (hbA.mono hbel.size))
                            generalize wr.alloc (.cells #[.int .i64 tf, .int .i64 ti, .bool ty, .bool tp] 87) = w9 at *
                            have HTD9 := Lib.hid hTD
                            clear hy hbh hbel hbA hTD
                            have e3 : w9.cell? ⟨wr.heap.size, 3, none⟩ = some (.bool tp) := by rw [HTD9.out.cell]; rfl
                            go_upto_if 131 with (fail)
                            go_cut [] (fun wx => ∃ y2 S2, NodeAt wx w4.heap.size g y2 S2 ∧ LeadInv y2 K l.length (T + 1) hv (21 + 16 * j + 7) ∧ y2.log.length ≤ l.length + 1 + j + 1 ∧ Blk wx bh 3 (ints hv).toArray ∧ Blk wx wr.heap.size 87 #[.int .i64 tf, .int .i64 ti, .bool ty, .bool tp] ∧ Below w4.heap.size w4 wx)
                            case first => as_aux_lemma =>
                              cases tp
                              · as_aux_lemma =>
                                go_wp2_with fail
                                go_meet
                                exact ⟨y, S, HY9.out, HINV.out.mono (by omega), by have := HYL.out; omega, HBH9.out, HTD9.out, HB9.out⟩
                              · as_aux_lemma =>
                                obtain ⟨y2, hpf, hin2, hl2⟩ := lead_propose HINV.out (by have := HK7.out; omega) ⟨#[112]⟩ (by decide) (by have := HYL.out; have := HL.out; have := HL40.out; omega)
                                have hin := HINV.out
                                have hyb : y.log.length ≤ 1000 := by have := HYL.out; have := HL.out; have := HL40.out; omega
                                have HPR := propose_any _ g y ⟨#[112]⟩ S w9 HY9.out (by rw [hin.n]; have := HK7.out; omega) (by rw [hin.n]; have := HK7.out; omega) (by rw [hin.id]; omega) (by rw [hin.id, hin.n]; have := HK7.out; omega) (by omega) HB9.out.size (by have := hin.out; omega) (fun _ => by rw [hin.pl, hin.n]) (fun _ p hp => by have := hin.pb p hp; omega)
                                rw [hpf] at HPR
                                simp only at HPR
                                have HPR := Lib.hid HPR
                                have HIN2 := Lib.hid hin2
                                have HL2 := Lib.hid hl2
                                have HYB := Lib.hid hyb
                                clear hpf hin2 hl2 hin hyb
                                go_wp2_with fail
                                refine HPR.out.mono ?_
                                rintro e w10 ⟨rfl, S10, hy10, ht10, hs10⟩
                                have HY10 := Lib.hid hy10
                                have HBH10 := Lib.hid (ht10.blk HBH9.out (HY9.out.notOf HBH9.out (by decide) (by decide) (by decide) (by decide) (by decide)))
                                have HTD10 := Lib.hid (ht10.blk HTD9.out (HY9.out.notOf HTD9.out (by decide) (by decide) (by decide) (by decide) (by decide)))
                                have HB10 := Lib.hid (HB9.out.trans (ht10.below HB9.out.size (fun i hi => HY9.out.base_has i hi)))
                                have hla := nLast_any _ g y2 S10 w10 hy10 (by rw [HIN2.out.n]; have := HK7.out; omega) (by rw [HL2.out]; have := HYB.out; omega)
                                rw [HL2.out] at hla
                                have HLA := Lib.hid hla
                                clear hy10 ht10 hs10 hla e3
                                have HYL2 := Lib.hid (show y.log.length + 1 ≤ l.length + 1 + j + 1 by have := HYL.out; omega)
                                generalize y.log.length + 1 = N1 at *
                                go_wp2_with fail
                                refine HLA.out.mono ?_
                                rintro e w11 ⟨rfl, rfl⟩
                                go_wp2_with fail
                                go_meet
                                exact ⟨y2, S10, HY10.out, HIN2.out.mono (by have := HK7.out; omega), by have := HL2.out; have := HYL2.out; omega, HBH10.out, HTD10.out, HB10.out⟩
                            case rest => as_aux_lemma =>
                              obtain ⟨y2, S2, hy2, hin2, hl2, hbh2, htd2, hb2⟩ := hcut
                              have e0 : wc.cell? ⟨wr.heap.size, 0, none⟩ = some (.int .i64 tf) := by rw [htd2.cell]; rfl
                              have e1 : wc.cell? ⟨wr.heap.size, 1, none⟩ = some (.int .i64 ti) := by rw [htd2.cell]; rfl
                              have e2 : wc.cell? ⟨wr.heap.size, 2, none⟩ = some (.bool ty) := by rw [htd2.cell]; rfl
                              have s0 : wc.cell? ⟨w1.heap.size, 0, none⟩ = some (.int .i64 T) := by rw [(HBK4.out.below hb2 HZ4.out).cell]; rfl
                              have hw2 : IntKind.i64.wrap (T + 1) = T + 1 := wr_i64 (by have := HT0.out; omega) (by have := HT0.out; omega)
                              have hlb : y2.log.length ≤ 1000 := by have := HL.out; have := HL40.out; omega
                              have HST := Lib.hid (step6_any _ g y2 (toldM tf (T + 1) ti ty) rfl none 0 0 S2 wc hy2 (by rw [hin2.n]; have := HK7.out; omega) (by rw [hin2.n]; have := HK7.out; omega) (Ents.nil _ _ _) rfl hin2.heard (by rw [hin2.id]; omega) (by rw [hin2.id, hin2.n]; have := HK7.out; omega) (fun _ => ⟨by rw [hin2.pl, hin2.n], fun p hp => by have := hin2.pb p hp; omega, fun p hp => by have := hin2.pb p hp; omega⟩) HTI.out (by omega) hb2.size (by have := hin2.out; omega))
                              obtain ⟨hin3, hlog3⟩ := lead_told hin2 HK7.out.2 tf ti ty (by have := HT0.out; omega) (by have := HT0.out; omega)
                              have HIN3 := Lib.hid hin3
                              have HLOG3 := Lib.hid hlog3
                              have HL2 := Lib.hid hl2
                              have HLB := Lib.hid hlb
                              have HHL := Lib.hid hin2.hl
                              have HNB := Lib.hid (hy2.notOf hbh2 (by decide) (by decide) (by decide) (by decide) (by decide))
                              have HND := Lib.hid (hy2.notOf htd2 (by decide) (by decide) (by decide) (by decide) (by decide))
                              have HBH2 := Lib.hid hbh2
                              have HTD2 := Lib.hid htd2
                              have HB2 := Lib.hid hb2
                              have HY2 := Lib.hid hy2
                              clear hin2 hl2 hbh2 htd2 hb2 hin3 hlog3 hlb hy2 HY9 HBH9 HB9 HTD9 HINV HYL
                              go_wp2_with fail
                              refine HST.out.mono ?_
                              rintro e w12 ⟨rfl, S3, hy3, ht3, hs3⟩
                              have HY3 := Lib.hid hy3
                              have HBH3 := Lib.hid (ht3.blk HBH2.out HNB.out)
                              have HTD3 := Lib.hid (ht3.blk HTD2.out HND.out)
                              have HB3 := Lib.hid (HB2.out.trans (ht3.below HB2.out.size (fun i hi => HY2.out.base_has i hi)))
                              generalize step6F y2 (toldM tf (T + 1) ti ty) = y3 at *
                              have hyl3 : y3.log.length = y2.log.length := by rw [HLOG3.out]
                              obtain ⟨N3, hN3⟩ : ∃ N3, y2.log.length = N3 := ⟨_, rfl⟩
                              have HN3 := Lib.hid (And.intro (hyl3.trans hN3) hN3)
                              have HLA := Lib.hid (fun W (hW : Below w12.heap.size w12 W) => (hyl3.trans hN3) ▸ nLast_any _ g y3 S3 W (hy3.on hW) (by rw [HIN3.out.n]; have := HK7.out; omega) (by rw [hyl3]; have := HLB.out; omega))
                              clear hy3 ht3 hs3 hyl3 hN3 e0 e1 e2 s0 hw2 HST HY2 HB2 HBH2 HTD2
                              have e0 : w12.cell? ⟨wr.heap.size, 0, none⟩ = some (.int .i64 tf) := by rw [HTD3.out.cell]; rfl
                              have e1 : w12.cell? ⟨wr.heap.size, 1, none⟩ = some (.int .i64 ti) := by rw [HTD3.out.cell]; rfl
                              have e2 : w12.cell? ⟨wr.heap.size, 2, none⟩ = some (.bool ty) := by rw [HTD3.out.cell]; rfl
                              go_upto_region 35 with (fail)
                              go_cut [181] (fun v wx => v = .bool (decide (0 < tf ∧ tf < (K : Int) ∧ ty = true ∧ 0 ≤ ti ∧ ti ≤ (N3 : Int))) ∧ Below w12.heap.size w12 wx)
                              case first => as_aux_lemma =>
                                obtain ⟨bb, hbb⟩ : ∃ bb, decide (0 < tf ∧ tf < (K : Int) ∧ ty = true ∧ 0 ≤ ti ∧ ti ≤ (N3 : Int)) = bb := ⟨_, rfl⟩
                                have HBB := Lib.hid hbb
                                clear hbb
                                by_cases h1 : 0 < tf
                                · have d1 : decide (0 < tf) = true := decide_eq_true h1
                                  by_cases h2 : tf < (K : Int)
                                  · have d2 : decide (tf < (K : Int)) = true := decide_eq_true h2
                                    rcases bool_two ty with h3 | h3
                                    · have hv : bb = false := by rw [← HBB.out, decide_eq_false]; rintro ⟨_, _, h9, _⟩; rw [h3] at h9; cases h9
                                      rw [h3] at e2
                                      clear h3 h1 h2
                                      go_big_quiet (fail)
                                      go_wp2_with fail
                                      go_meet
                                      exact ⟨by rw [HBB.out, hv], below_drewN (Below.refl _ _) nq⟩
                                    · by_cases h4 : 0 ≤ ti
                                      · have d4 : decide (0 ≤ ti) = true := decide_eq_true h4
                                        have hv : bb = decide (ti ≤ (N3 : Int)) := by
                                          rw [← HBB.out]
                                          by_cases h5 : ti ≤ (N3 : Int)
                                          · rw [decide_eq_true h5, decide_eq_true ⟨h1, h2, h3, h4, h5⟩]
                                          · rw [decide_eq_false h5, decide_eq_false (fun h9 => h5 h9.2.2.2.2)]
                                        rw [h3] at e2
                                        have HV := Lib.hid hv
                                        clear h3 h1 h2 h4 hv
                                        go_big_quiet (first | (go_at_call 33; refine Calls.quiet_of_same (HLA.out _ (below_drewN (Below.refl _ _) _))))
                                        go_wp2_with fail
                                        go_meet
                                        exact ⟨by rw [HBB.out, HV.out], below_drewN (Below.refl _ _) nq⟩
                                      · have d4 : decide (0 ≤ ti) = false := decide_eq_false h4
                                        have hv : bb = false := by rw [← HBB.out, decide_eq_false]; rintro ⟨_, _, _, h9, _⟩; exact h4 h9
                                        rw [h3] at e2
                                        clear h3 h1 h2
                                        go_big_quiet (fail)
                                        go_wp2_with fail
                                        go_meet
                                        exact ⟨by rw [HBB.out, hv], below_drewN (Below.refl _ _) nq⟩
                                  · have d2 : decide (tf < (K : Int)) = false := decide_eq_false h2
                                    have hv : bb = false := by rw [← HBB.out, decide_eq_false]; rintro ⟨_, h9, _⟩; exact h2 h9
                                    clear h1
                                    go_big_quiet (fail)
                                    go_wp2_with fail
                                    go_meet
                                    exact ⟨by rw [HBB.out, hv], below_drewN (Below.refl _ _) nq⟩
                                · have d1 : decide (0 < tf) = false := decide_eq_false h1
                                  have hv : bb = false := by rw [← HBB.out, decide_eq_false]; rintro ⟨h9, _⟩; exact h1 h9
                                  go_big_quiet (fail)
                                  go_wp2_with fail
                                  go_meet
                                  exact ⟨by rw [HBB.out, hv], below_drewN (Below.refl _ _) nq⟩
                              case rest => as_aux_lemma =>
                                obtain ⟨rfl, hbc⟩ := hcut
                                rename_i wq _
                                have HY4 := Lib.hid (HY3.out.on hbc)
                                have HBH4 := Lib.hid (HBH3.out.below hbc HBH3.out.lt)
                                have hTD4 := HTD3.out.below hbc HTD3.out.lt
                                have HB4b := Lib.hid (HB3.out.trans (hbc.mono HB3.out.size))
                                have HIN4 := Lib.hid (show LeadInv y3 K l.length (T + 1) (notedF hv K tf ti ty N3) (21 + 16 * j + 7 + K + 1) by have h9 := HIN3.out; rw [HN3.out.2] at h9; exact h9)
                                clear e0 e1 e2 hbc HIN3 HLA HY3 HBH3 HTD3 HB3
                                have e0 : wc.cell? ⟨wr.heap.size, 0, none⟩ = some (.int .i64 tf) := by rw [hTD4.cell]; rfl
                                have e1 : wc.cell? ⟨wr.heap.size, 1, none⟩ = some (.int .i64 ti) := by rw [hTD4.cell]; rfl
                                clear hTD4
                                go_upto_if 181 with (fail)
                                go_cut [] (fun wx => NodeAt wx w4.heap.size g y3 S3 ∧ Blk wx bh 3 (ints (notedF hv K tf ti ty N3)).toArray ∧ Below w4.heap.size w4 wx)
                                case first => as_aux_lemma =>
                                  by_cases hb : 0 < tf ∧ tf < (K : Int) ∧ ty = true ∧ 0 ≤ ti ∧ ti ≤ (N3 : Int)
                                  · as_aux_lemma =>
                                    obtain ⟨fn, hfn⟩ : ∃ fn : Nat, tf = (fn : Int) := ⟨tf.toNat, by omega⟩
                                    have hfl : fn < hv.length := by rw [HHL.out]; omega
                                    have hno : notedF hv K tf ti ty N3 = hv.set fn (max (hv.getD fn 0) ti) := by
                                      unfold notedF
                                      rw [if_pos ⟨hb.1, hb.2.1, hb.2.2.1, hb.2.2.2.1, by omega⟩]
                                      have : tf.toNat = fn := by omega
                                      rw [this]
                                    have HNO := Lib.hid hno
                                    have hc0 : wc.cell? ⟨bh, fn, none⟩ = some (.int .i64 (hv.getD fn 0)) := by
                                      rw [HBH4.out.cell]
                                      simp only [List.getElem?_toArray]
                                      exact ints_get _ fn hfl
                                    have hf0 := HBH4.out.frozen fn
                                    have hfk : (fn : Int) < (K : Int) := by omega
                                    have hfz : (0 : Int) ≤ (fn : Int) := by omega
                                    rw [decide_eq_true hb]
                                    rw [hfn] at e0
                                    have HMX := Lib.hid (show (ints hv).toArray.setIfInBounds fn (.int .i64 (max (hv.getD fn 0) ti)) = (ints (notedF hv K tf ti ty N3)).toArray by rw [ints_set, hno])
                                    clear hb hfn hno hfl
                                    generalize hv.getD fn 0 = old at *
                                    go_upto_region 36 with (fail)
                                    go_region
                                    all_goals
                                      go_wp2_with fail
                                      go_meet
                                      have h1 := HBH4.out.set_ fn (.int .i64 (max old ti))
                                      rw [HMX.out] at h1
                                      have h2 := HY4.out.aside HBH4.out (by decide) (by decide) (by decide) (by decide) (by decide) fn (.int .i64 (max old ti))
                                      have h3 := HB4b.out.setCell (p := ⟨bh, fn, none⟩) HBHL.out (.int .i64 (max old ti))
                                      first | exact ⟨h2, h1, h3⟩ | exact ⟨h2.on (Below.refl _ _).drew, h1, h3.drew⟩
                                  · as_aux_lemma =>
                                    have HNO := Lib.hid (show notedF hv K tf ti ty N3 = hv by unfold notedF; rw [if_neg (fun h9 => hb ⟨h9.1, h9.2.1, h9.2.2.1, h9.2.2.2.1, by omega⟩)])
                                    rw [decide_eq_false hb]
                                    clear hb
                                    go_wp2_with fail
                                    go_meet
                                    rw [HNO.out]
                                    exact ⟨HY4.out, HBH4.out, HB4b.out⟩
                                case rest => as_aux_lemma =>
                                  obtain ⟨hy5, hbh5, hb5⟩ := hcut
                                  have hnl : (notedF hv K tf ti ty N3).length = K := HIN4.out.hl
                                  have hla := nLast_any _ g y3 S3 wc hy5 (by rw [HIN4.out.n]; have := HK7.out; omega) (by rw [HN3.out.1, ← HN3.out.2]; have := HLB.out; omega)
                                  rw [HN3.out.1] at hla
                                  have HLA5 := Lib.hid hla
                                  have hc0 : wc.cell? ⟨bh, 0, none⟩ = some (.int .i64 ((notedF hv K tf ti ty N3).getD 0 0)) := by
                                    rw [hbh5.cell]
                                    simp only [List.getElem?_toArray]
                                    exact ints_get _ 0 (by rw [hnl]; have := HK7.out; omega)
                                  have hf0 := hbh5.frozen 0
                                  have hk0 : (0 : Int) < (K : Int) := by have := HK7.out; omega
                                  have hset := hbh5.set_ 0 (.int .i64 (N3 : Int))
                                  rw [ints_set] at hset
                                  have HSET := Lib.hid hset
                                  have HY6b := Lib.hid (hy5.aside hbh5 (by decide) (by decide) (by decide) (by decide) (by decide) 0 (.int .i64 (N3 : Int)))
                                  have HB6b := Lib.hid (hb5.setCell (p := ⟨bh, 0, none⟩) HBHL.out (.int .i64 (N3 : Int)))
                                  have HAS := Lib.hid (show hasL y3 K = (notedF hv K tf ti ty N3).set 0 (N3 : Int) by rw [HIN4.out.hasL_eq, HN3.out.1])
                                  have HMI := Lib.hid (fun i => most_iff y3 K HIN4.out.n (by have := HK7.out; omega) i)
                                  have HML := Lib.hid (show mostHas y3 ≤ (N3 : Int) by have h9 := most_le y3 K HIN4.out.n (by have := HK7.out; omega) _ (hasL_le y3 K HIN4.out.id HIN4.out.pl (fun p hp => (HIN4.out.pb p hp).1.2)); rw [HN3.out.1] at h9; exact h9)
                                  generalize (notedF hv K tf ti ty N3).getD 0 0 = old0 at *
                                  clear hy5 hbh5 hb5 hnl hla hset HY4 HBH4 HB4b e0 e1
                                  go_wp2_with fail
                                  refine HLA5.out.mono ?_
                                  rintro e w13 ⟨rfl, rfl⟩
                                  go_upto_region 40 with (fail)
                                  clear hc0 hf0 HLA5
                                  generalize (w13.setCell ⟨bh, 0, none⟩ (.int .i64 (N3 : Int))) = w14 at *
                                  have HCM := Lib.hid (show y3.commit = if (k : Int) + 1 ≤ mostHas y3 then mostHas y3 else 0 by have h9 := HIN4.out.commit; rw [HL.out] at h9; exact h9)
                                  have HLN := Lib.hid (show k + 1 ≤ N3 ∧ N3 ≤ 1000 by have h9 := HIN4.out.len; rw [HN3.out.1, HL.out] at h9; have := HLB.out; have := HN3.out.2; omega)
                                  have HNL := Lib.hid (show ((notedF hv K tf ti ty N3).set 0 (N3 : Int)).length = K by rw [List.length_set]; exact HIN4.out.hl)
                                  have hla := nLast_any _ g y3 S3 w14 HY6b.out (by rw [HIN4.out.n]; have := HK7.out; omega) (by rw [HN3.out.1]; have := HLN.out; omega)
                                  rw [HN3.out.1] at hla
                                  have HLA6 := Lib.hid hla
                                  have hmi := HMI.out
                                  rw [HAS.out] at hmi
                                  have HMI := Lib.hid hmi
                                  have HINS := Lib.hid (HIN4.out.set0 (N3 : Int))
                                  generalize mostHas y3 = MH at *
                                  generalize (notedF hv K tf ti ty N3).set 0 (N3 : Int) = hs at *
                                  clear hla hmi
                                  go_loopw [20, 21] (fun wv iv wr => ∃ d : Nat, (k : Int) + 1 + d ≤ N3 + 1 ∧ iv = .int .i64 ((k : Int) + 1 + d) ∧ wv = .int .i64 (if (k : Int) + 1 ≤ min MH ((k : Int) + d) then min MH ((k : Int) + d) else 0) ∧ wr = w14) (fun _ iv _ => N3 + 1 - (intOf iv).toNat)
                                  case atStart => exact ⟨0, by have := HLN.out; omega, by first | (rw [show wrap64 ((k : Int) + 1) = (k : Int) + 1 from wr_64 (by omega) (by have := HL40.out; omega)]; simp) | simp, by rw [if_neg (by omega)], rfl⟩
                                  case round =>
                                    obtain ⟨d, hd, rfl, rfl, hwr⟩ := hrel
                                    have hwr2 := hwr.symm
                                    subst hwr2
                                    clear hwr
                                    by_cases hle : (k : Int) + 1 + d ≤ (N3 : Int)
                                    · as_aux_lemma =>
                                      have hd1 : (k : Int) + 1 + d ≤ 1001 := by have := HLN.out; omega
                                      have hw1 : IntKind.i64.wrap ((k : Int) + 1 + d + 1) = (k : Int) + 1 + d + 1 := wr_i64 (by omega) (by omega)
                                      have HD := Lib.hid (And.intro hd (And.intro hle hd1))
                                      generalize hwv : (if (k : Int) + 1 ≤ min MH ((k : Int) + d) then min MH ((k : Int) + d) else 0) = wv
                                      have HWV := Lib.hid hwv
                                      clear hwv
                                      have HCE := Lib.hid (fun (p : Nat) (hp : p < K) => (show w14.cell? ⟨bh, p, none⟩ = some (.int .i64 (hs.getD p 0)) by rw [HSET.out.cell]; simp only [List.getElem?_toArray]; exact ints_get _ p (by rw [HNL.out]; exact hp)))
                                      clear hd
                                      go_wp2_with fail
                                      refine HLA6.out.mono ?_
                                      rintro e w15 ⟨rfl, hwq⟩
                                      subst hwq
                                      go_upto_region 44 with (fail)
                                      go_loopw [22, 209] (fun mv pv wr => ∃ p : Nat, p ≤ K ∧ pv = .int .i64 (p : Int) ∧ mv = .int .i64 ((manyF (hs.take p) ((k : Int) + 1 + d) : Nat) : Int) ∧ wr = w15) (fun _ pv _ => K - (intOf pv).toNat)
                                      case atStart => exact ⟨0, Nat.zero_le _, rfl, by simp [manyF], rfl⟩
                                      case round =>
                                        obtain ⟨p, hp, rfl, rfl, hwp⟩ := hrel
                                        have hwp2 := hwp.symm
                                        subst hwp2
                                        clear hwp
                                        by_cases hpl : p < K
                                        · as_aux_lemma =>
                                          have hpk : (p : Int) < (K : Int) := by omega
                                          have hp7 : (p : Int) ≤ 7 := by have := HK7.out; omega
                                          have hc := HCE.out p hpl
                                          have hpl2 : p < hs.length := by rw [HNL.out]; exact hpl
                                          have hmt := many_take hs p hpl2 ((k : Int) + 1 + d)
                                          have hgd : hs.getD p 0 = hs[p] := by rw [List.getD_eq_getElem?_getD, List.getElem?_eq_getElem hpl2]; rfl
                                          rw [hgd] at hc
                                          have hml := many_le (hs.take p) ((k : Int) + 1 + d)
                                          obtain ⟨v0, hv0⟩ : ∃ v0, hs[p] = v0 := ⟨_, rfl⟩
                                          rw [hv0] at hc hmt
                                          rw [List.length_take] at hml
                                          generalize manyF (hs.take p) ((k : Int) + 1 + d) = m0 at *
                                          have hw3 : IntKind.i64.wrap ((m0 : Int) + 1) = (m0 : Int) + 1 := wr_i64 (by omega) (by have := HK7.out; omega)
                                          have HMT := Lib.hid hmt
                                          have HPL := Lib.hid hpl
                                          clear hml hgd hpl2 hmt hv0 hpl hp
                                          by_cases hge : (k : Int) + 1 + d ≤ v0
                                          · have HM1 := Lib.hid (HMT.out.trans (by rw [if_pos hge]))
                                            go_wp2_with fail
                                            go_roundw
                                            case rel => exact ⟨p + 1, HPL.out, by go_num, by rw [HM1.out]; go_num, trivial⟩
                                            case measure => have := HPL.out; simp [intOf]; omega
                                          · have HM1 := Lib.hid (HMT.out.trans (by rw [if_neg hge]))
                                            go_wp2_with fail
                                            go_roundw
                                            case rel => exact ⟨p + 1, HPL.out, by go_num, by rw [HM1.out]; rfl, trivial⟩
                                            case measure => have := HPL.out; simp [intOf]; omega
                                        · as_aux_lemma =>
                                          have hpk : ¬ (p : Int) < (K : Int) := by omega
                                          have hpe : hs.take p = hs := List.take_of_length_le (by rw [HNL.out]; omega)
                                          rw [hpe]
                                          have hmi := HMI.out ((k : Int) + 1 + d)
                                          have hml := many_le hs ((k : Int) + 1 + d)
                                          rw [HNL.out] at hml
                                          generalize manyF hs ((k : Int) + 1 + d) = m0 at *
                                          have hw3 : IntKind.i64.wrap (2 * (m0 : Int)) = 2 * (m0 : Int) := wr_i64 (by omega) (by have := HK7.out; omega)
                                          have HM := Lib.hid hmi
                                          have HKM := Lib.hid hml
                                          clear hmi hml hpe hpl hp
                                          by_cases hgt : (K : Int) < 2 * (m0 : Int)
                                          · have hle2 : (k : Int) + 1 + d ≤ MH := HM.out.1 (by omega)
                                            have HLE := Lib.hid hle2
                                            clear hle2
                                            go_wp2_with fail
                                            go_roundw
                                            case rel => exact ⟨d + 1, by have := HD.out; omega, by go_num, by have h8 := HLE.out; rw [if_pos (by omega)]; congr 1; omega, trivial⟩
                                            case measure => have := HD.out; simp [intOf]; omega
                                          · have hle2 : ¬ (k : Int) + 1 + d ≤ MH := fun h => hgt (by have := HM.out.2 h; omega)
                                            have HLE := Lib.hid hle2
                                            clear hle2
                                            go_wp2_with fail
                                            go_roundw
                                            case rel => exact ⟨d + 1, by have := HD.out; omega, by go_num, by have h8 := HLE.out; rw [← HWV.out]; congr 1; split <;> split <;> omega, trivial⟩
                                            case measure => have := HD.out; simp [intOf]; omega
                                    · as_aux_lemma =>
                                      have hdn : (k : Int) + d = N3 := by omega
                                      have hwant : (if (k : Int) + 1 ≤ min MH ((k : Int) + d) then min MH ((k : Int) + d) else 0) = y3.commit := by
                                        rw [HCM.out, hdn]
                                        have := HML.out
                                        split <;> split <;> omega
                                      rw [hwant]
                                      have hc0 : 0 ≤ y3.commit := by rw [HCM.out]; split <;> omega
                                      have hcN : y3.commit ≤ (N3 : Int) := by rw [HCM.out]; have := HML.out; split <;> omega
                                      have hn0 : (0 : Int) < y3.n := by rw [HIN4.out.n]; have := HK7.out; omega
                                      have hro := nRole_any _ g y3 S3 w14 HY6b.out hn0
                                      rw [HIN4.out.role] at hro
                                      have HRO := Lib.hid hro
                                      have hco := nCommit_any _ g y3 S3 w14 HY6b.out hn0
                                      have hcd := nCommitted_any _ g y3 1 S3 w14 HY6b.out hn0 (by rw [HN3.out.1]; have := HLN.out; omega) hc0 (by have := HLN.out; omega) (by decide)
                                      have hcl := committed_len y3 hc0 (by rw [HN3.out.1]; exact hcN)
                                      have HLG := Lib.hid (show y3.log.length ≤ l.length + 1 + (j + 1) by have := HL2.out; have := HN3.out; omega)
                                      have HIE := Lib.hid (show LeadInv y3 K l.length (T + 1) hs (21 + 16 * (j + 1)) from HINS.out.mono (by have := HK7.out; omega))
                                      generalize committedF y3 1 = cs at *
                                      generalize y3.commit = cm at *
                                      have HCD := Lib.hid hcd
                                      have HCO := Lib.hid hco
                                      have HCL := Lib.hid hcl
                                      clear hro hco hcd hcl hwant hc0 hcN hn0 hdn hd
                                      go_wp2_with fail
                                      refine HLA6.out.mono ?_
                                      rintro e w15 ⟨rfl, hwq⟩
                                      subst hwq
                                      go_wp2_with fail
                                      refine HCO.out.mono ?_
                                      rintro e w16 ⟨rfl, hwq⟩
                                      subst hwq
                                      go_wp2_with fail
                                      refine HRO.out.mono ?_
                                      rintro e w17 ⟨rfl, hwq⟩
                                      subst hwq
                                      go_wp2_with fail
                                      refine HCD.out.mono ?_
                                      rintro e w18 ⟨A6, n6, c6, rfl, hn6, hf6, hb6⟩
                                      have hcm : cm = (n6 : Int) := by rw [← HCL.out, hn6]
                                      subst hcm
                                      have HB18 := Lib.hid hb6
                                      clear hf6 hb6 hn6
                                      go_wp2_with fail
                                      go_roundw
                                      case rel => exact ⟨j + 1, HK.out, by go_num, ⟨hs, y3, S3, HY6b.out.on HB18.out, HIE.out, HLG.out, HSET.out.below HB18.out HSET.out.lt⟩, HB6b.out.trans (HB18.out.mono HB6b.out.size)⟩
                                      case measure => have := HK.out; simp [intOf]; omega
                          · as_aux_lemma =>
                            have hlt' : ¬ (j : Int) < (n2 : Int) := by omega
                            have HFI := Lib.hid (bthen HB4.out hbel)
                            clear hbel hy hinv hyl hbh hlt hj
                            go_wp2_with fail
                            go_ret
                            exact ⟨rfl, HFI.out⟩
end Go.Proofs.Ytpgohajnohebnaa.raftLeads
