/- WordReads: whatever is asked for, of any bytes, each answer, what is left, and whether it failed, is what the document tells. For every input, without a condition. -/
import Derived.Test.YtnadmijfbfgcnaaRows
import Derived.Test.YtnadmijfbfgcnaaFix1
import Derived.ProofKit
import Derived.Deep.RegionWith
import Derived.Deep.RegionHeld3
import Derived.Deep.DeepCutAuto
import Derived.Deep.QuietTactic
import Derived.BigQuiet
import Derived.Deep.Slices
import Derived.OpenShut
import Derived.ShutString
namespace Go.Proofs.Ytnadmijfbfgcnaa.wordReads
open Go.ChangeShapes Go.WideShapes Go.ChangeAt Go.RowKit Go.Deep
set_option linter.unusedVariables false

theorem own : ownKnob Try.prog.godebug = none := by kernel_rfl
theorem laidOut : laidOutB Try.prog = true := by kernel_rfl

/-- a row of acts: each has three cells -/
def Acts (w : World) (B : Nat) (A : Option Addr) (n : Nat) (f : Nat → Int × Int × Int) : Prop :=
  (∀ j, j < n → 0 ≤ (f j).1 ∧ (f j).1 ≤ 255) ∧
  (0 < n → ∃ b off, A = some ⟨b, off, none⟩ ∧ b < B ∧ ∀ j, j < n → w.cell? ⟨b, off + j * 3, none⟩ = some (.int .u8 (f j).1) ∧ w.cell? ⟨b, off + j * 3 + 1, none⟩ = some (.int .i64 (f j).2.1) ∧ w.cell? ⟨b, off + j * 3 + 2, none⟩ = some (.int .i64 (f j).2.2))

/-- the reader of the program, and the document's, are at one place -/
def Both (w : World) (g g' : Nat) (s : RS) : Prop := Rdr w g s ∧ Prd w g' s

set_option maxRecDepth 100000 in
set_option maxHeartbeats 3200000 in
theorem walk (A : Option Addr) (n c : Nat) (l : List UInt8) (A' : Option Addr) (n' c' : Nat) (f : Nat → Int × Int × Int) (w : World) (hs : Sees w w.heap.size A n (cbs l)) (ha : Acts w w.heap.size A' n' f) (hn : n ≤ maxLen) (hn' : n' ≤ maxLen) :
    Calls Try.prog 4 #[.slice A n c, .slice A' n' c'] w fun e w' => e = .returned (.bool true) ∧ Below w.heap.size w w' := by
  unfold maxLen at hn hn'
  by_cases hz : 400 < n ∨ 60 < n'
  · by_cases hz1 : 400 < n
    · have hz2 : (400 : Int) < (n : Int) := by omega
      go_enter Try.func4, Try.ntmps4
      go_wp2_with fail
      refine (fixed1_any _).mono ?_
      rintro e w1 ⟨rfl, hb1⟩
      go_wp2_with fail
      go_ret
      exact ⟨rfl, hb1⟩
    · have hz2 : ¬ (400 : Int) < (n : Int) := by omega
      have hz3 : (60 : Int) < (n' : Int) := by omega
      go_enter Try.func4, Try.ntmps4
      go_wp2_with fail
      refine (fixed1_any _).mono ?_
      rintro e w1 ⟨rfl, hb1⟩
      go_wp2_with fail
      go_ret
      exact ⟨rfl, hb1⟩
  · have hz2 : ¬ (400 : Int) < (n : Int) := by omega
    have hz3 : ¬ (60 : Int) < (n' : Int) := by omega
    have hlen : l.length = n := by have := hs.1; simpa using this
    have HLEN := Lib.hid hlen
    clear hlen
    go_enter Try.func4, Try.ntmps4
    go_wp2_with fail
    refine (fixed1_any _).mono ?_
    rintro e w1 ⟨rfl, hb1⟩
    have hs1 := hs.on hb1
    clear hs
    go_wp2_with fail
    go_upto_region 5 with (fail)
    go_cut [5, 6] (fun r p wx => ∃ g g', r = .pointer (some ⟨g, 0, none⟩) ∧ p = .pointer (some ⟨g', 0, none⟩) ∧ Both wx g g' ⟨l, false⟩ ∧ g ≠ g' ∧ w.heap.size ≤ g ∧ w.heap.size ≤ g' ∧ Below w.heap.size w wx)
    case first =>
      have HC := Lib.hid (fun W B h => conv_sees (P := Try.prog) W 23 9 5 sl_u8 Try.underlying5 Try.underlying9 B A n c l h)
      have hc0 := HC.out w1.drew _ hs1.drew
      go_region_with (go_at_call 16; refine (read_any A n c l _ (by first | exact hs1.drew | exact (hs1.past _).drew) (by omega)).mono ?_; rintro e wR ⟨g, rfl, hr, hbR, hgR⟩; have hbW : Below w1.heap.size w1 wR := (by first | exact bthen ((Below.refl _ w1).drew) hbR | exact bthen (((Below.refl _ w1).alloc (Nat.le_refl _) _).drew) hbR); have hcR := HC.out wR _ (hs1.below hbW))
      all_goals
        have hll : l.length ≤ 9223372036854775807 := by rw [HLEN.out]; omega
        have hbx := bthen hb1 hbW
        have hg0 : w.heap.size ≤ g := Nat.le_trans hb1.size (by first | exact hgR | (have := hgR; simp at this; omega))
        go_wp2_with fail
        go_meet
        first
          | (have hpn : Prd (wR.alloc (.cells #[.string ⟨l.toArray⟩, .bool false] 38)) wR.heap.size ⟨l, false⟩ := ⟨⟨l.toArray⟩, Blk.new _ _ _, rfl, (by simp), hll⟩
             exact ⟨g, wR.heap.size, rfl, rfl, ⟨hr.alloc _, hpn⟩, (by have := hr.lt; omega), hg0, hbx.size, hbx.alloc hbx.size _⟩)
          | (have hpn : Prd wR w1.heap.size ⟨l, false⟩ := ⟨⟨l.toArray⟩, Blk.below (Blk.new w1 38 #[.string ⟨l.toArray⟩, .bool false]).drew hbR (by simp), rfl, (by simp), hll⟩
             exact ⟨g, w1.heap.size, rfl, rfl, ⟨hr, hpn⟩, (by have := hgR; simp at this; omega), hg0, hb1.size, hbx⟩)
    case rest =>
      obtain ⟨g, g', rfl, rfl, hboth, hgg, hg0, hg1, hbx⟩ := hcut
      have HA := Lib.hid ha
      clear ha hb1 hs1 HLEN hz hz2 hz3
      go_wp2_with fail
      go_loopw [27] (fun i wr => ∃ k : Nat, k ≤ n' ∧ i = .int .i64 k ∧ (∃ s, Both wr g g' s) ∧ Below w.heap.size w wr) (fun i _ => n' - (intOf i).toNat)
      case atStart => exact ⟨0, Nat.zero_le _, rfl, ⟨_, hboth⟩, hbx⟩
      case round =>
        obtain ⟨k, hk, rfl, ⟨s, hbo⟩, hbel⟩ := hrel
        by_cases hlt : k < n'
        · obtain ⟨hk0, hk255⟩ := HA.out.1 k hlt
          obtain ⟨b, off, rfl, hbw, hcells⟩ := HA.out.2 (by omega)
          obtain ⟨c0', c1', c2'⟩ := hcells k hlt
          have c0 := (hbel.cell (p := ⟨b, off + k * 3, none⟩) hbw).trans c0'
          have c1 := (hbel.cell (p := ⟨b, off + k * 3 + 1, none⟩) hbw).trans c1'
          have c2 := (hbel.cell (p := ⟨b, off + k * 3 + 2, none⟩) hbw).trans c2'
          clear hcells c0' c1' c2'
          generalize (f k).1 = kd at *
          generalize (f k).2.1 = lo at *
          generalize (f k).2.2 = hi at *
          rcases (show kd % 3 = 0 ∨ kd % 3 = 1 ∨ kd % 3 = 2 by omega) with hm | hm | hm
          · have q0 : (kd % 3 == 0) = true := by simp [hm]
            have HM := Lib.hid hm
            clear hm
            go_wp2_with fail
            obtain ⟨hrd, hpd⟩ := hbo
            have hgl := hrd.lt
            have hpl := hpd.lt
            have hbA := hbel.alloc hbel.size (.cells #[.int .u8 kd, .int .i64 lo, .int .i64 hi] 40)
            have hrA : Rdr (wr.alloc (.cells #[.int .u8 kd, .int .i64 lo, .int .i64 hi] 40)) g s := hrd.alloc _
            have hpA : Prd (wr.alloc (.cells #[.int .u8 kd, .int .i64 lo, .int .i64 hi] 40)) g' s := hpd.keep (Below.heap_alloc _ _ _ hpl)
            have hkA : Blk (wr.alloc (.cells #[.int .u8 kd, .int .i64 lo, .int .i64 hi] 40)) wr.heap.size 40 #[.int .u8 kd, .int .i64 lo, .int .i64 hi] := Blk.new wr _ _
            generalize wr.alloc (.cells #[.int .u8 kd, .int .i64 lo, .int .i64 hi] 40) = W1 at *
            generalize wr.heap.size = G at *
            clear c0 c1 c2 hbel hrd hpd hbw
            have hga : G ≠ g := by omega
            have hgb : G ≠ g' := by omega
            go_upto_region 11 with (fail)
            go_cut [48] (fun t wx => t = .bool false ∧ Both wx g g' (s.int lo hi).2 ∧ Below w.heap.size w wx)
            case first =>
              have d1 : W1.cell? ⟨G, 1, none⟩ = some (.int .i64 lo) := by rw [hkA.cell]; rfl
              have d2 : W1.cell? ⟨G, 2, none⟩ = some (.int .i64 hi) := by rw [hkA.cell]; rfl
              have HKA := Lib.hid hkA
              clear hkA
              go_region_held3 (fun w' => w'.cell? ⟨G, 1, none⟩ = some (.int .i64 lo) ∧ w'.cell? ⟨G, 2, none⟩ = some (.int .i64 hi)) ((first | exact ⟨d1, d2⟩ | exact ⟨e1, e2⟩ | exact ⟨f1, f2⟩)) (first
                | (go_at_call 17; refine (rInt_any g s lo hi _ (by exact hrA)).mono ?_; rintro e w2 ⟨rfl, hr2, hg2⟩; have hk2 := Blk.grown (w := W1.drew) HKA.out hg2 (by simpa using hga); have e1 : w2.cell? ⟨G, 1, none⟩ = some (.int .i64 lo) := (by rw [hk2.cell]; rfl); have e2 : w2.cell? ⟨G, 2, none⟩ = some (.int .i64 hi) := (by rw [hk2.cell]; rfl); have HK2 := Lib.hid hk2; clear hk2)
                | (go_at_call 23; refine (pInt_any g' s lo hi _ (Prd.gb (w := W1.drew) hpA hg2 (Ne.symm hgg))).mono ?_; rintro e w3 ⟨rfl, hp3, hg3⟩; have hk3 := HK2.out.grown hg3 (by simpa using hgb); have f1 : w3.cell? ⟨G, 1, none⟩ = some (.int .i64 lo) := (by rw [hk3.cell]; rfl); have f2 : w3.cell? ⟨G, 2, none⟩ = some (.int .i64 hi) := (by rw [hk3.cell]; rfl); clear hk3))
              go_wp2_with fail
              go_meet
              exact ⟨rfl, ⟨hr2.gb (Prd.gb (w := W1.drew) hpA hg2 (Ne.symm hgg)) hg3 (Ne.symm hgg), hp3⟩, below_gb (below_gb hbA.drew hg2 hg0 (by have := hbA.size; exact this)) hg3 hg1 (by have h1 := hbA.size; have h2 := hg2.size; exact Nat.le_trans h1 h2)⟩
            case rest =>
              obtain ⟨rfl, ⟨hr2, hp2⟩, hb2⟩ := hcut
              generalize (s.int lo hi).2 = s2 at *
              clear hrA hpA hkA hbA hboth hbx
              obtain ⟨t, hblk, ht, hbl, hm2⟩ := id hp2
              obtain ⟨l2, bad2⟩ := s2
              simp only at ht hbl hm2 hblk
              have c0 : _ = some (Value.string t) := hblk.cell 0
              have c1 : _ = some (Value.bool bad2) := hblk.cell 1
              clear hblk
              by_cases hl2 : l2 = []
              · subst hl2
                have ht0 : t = ⟨#[]⟩ := by rw [text_eta t, ht]
                subst ht0
                clear ht hbl hm2
                cases bad2
                · have hd : (RS.mk [] false).done = true := rfl
                  go_wp2_with fail
                  go_quiet ((first | (go_at_call 18; exact Calls.quiet_of_same (rFail_any g _ _ (by exact hr2))) | (go_at_call 21; exact Calls.quiet_of_same (rLeft_any g _ _ (by exact hr2))) | (go_at_call 22; exact Calls.quiet_of_same (rDone_any g _ _ (by exact hr2)))))
                  go_wp2_with fail
                  go_roundw
                  case rel => exact ⟨k + 1, by omega, by go_num, ⟨_, hr2.drewN nq, hp2.drewN nq⟩, below_drewN hb2 nq⟩
                  case measure => simp [intOf]; omega

                · have hd : (RS.mk [] true).done = false := rfl
                  go_wp2_with fail
                  go_quiet ((first | (go_at_call 18; exact Calls.quiet_of_same (rFail_any g _ _ (by exact hr2))) | (go_at_call 21; exact Calls.quiet_of_same (rLeft_any g _ _ (by exact hr2))) | (go_at_call 22; exact Calls.quiet_of_same (rDone_any g _ _ (by exact hr2)))))
                  go_wp2_with fail
                  go_roundw
                  case rel => exact ⟨k + 1, by omega, by go_num, ⟨_, hr2.drewN nq, hp2.drewN nq⟩, below_drewN hb2 nq⟩
                  case measure => simp [intOf]; omega

              · have hbf : bad2 = false := by
                  cases bad2
                  · rfl
                  · exact absurd (hbl rfl) hl2
                subst hbf
                have hd : (RS.mk l2 false).done = false := by simp [RS.done, hl2]
                have hts : t.size = l2.length := by rw [← text_len, ht]
                have hte : t.toList.isEmpty = false := by rw [ByteArray.toList_eq, ht]; simp [hl2]
                have hte2 : t.data.toList.isEmpty = false := by rw [ht]; simp [hl2]
                have hte3 : (t.toList == []) = false := by rw [ByteArray.toList_eq, ht]; simp [hl2]
                have hte4 : ¬ t.toList = [] := by rw [ByteArray.toList_eq, ht]; exact hl2
                clear ht hbl hl2
                go_wp2_with fail
                go_quiet ((first | (go_at_call 18; exact Calls.quiet_of_same (rFail_any g _ _ (by exact hr2))) | (go_at_call 21; exact Calls.quiet_of_same (rLeft_any g _ _ (by exact hr2))) | (go_at_call 22; exact Calls.quiet_of_same (rDone_any g _ _ (by exact hr2)))))
                go_wp2_with fail
                go_roundw
                case rel => exact ⟨k + 1, by omega, by go_num, ⟨_, hr2.drewN nq, hp2.drewN nq⟩, below_drewN hb2 nq⟩
                case measure => simp [intOf]; omega

          · have q0 : (kd % 3 == 0) = false := by simp [hm]
            have q1 : (kd % 3 == 1) = true := by simp [hm]
            have HM := Lib.hid hm
            clear hm
            go_wp2_with fail
            obtain ⟨hrd, hpd⟩ := hbo
            have hgl := hrd.lt
            have hpl := hpd.lt
            have hbA := hbel.alloc hbel.size (.cells #[.int .u8 kd, .int .i64 lo, .int .i64 hi] 40)
            have hrA : Rdr (wr.alloc (.cells #[.int .u8 kd, .int .i64 lo, .int .i64 hi] 40)) g s := hrd.alloc _
            have hpA : Prd (wr.alloc (.cells #[.int .u8 kd, .int .i64 lo, .int .i64 hi] 40)) g' s := hpd.keep (Below.heap_alloc _ _ _ hpl)
            have hkA : Blk (wr.alloc (.cells #[.int .u8 kd, .int .i64 lo, .int .i64 hi] 40)) wr.heap.size 40 #[.int .u8 kd, .int .i64 lo, .int .i64 hi] := Blk.new wr _ _
            generalize wr.alloc (.cells #[.int .u8 kd, .int .i64 lo, .int .i64 hi] 40) = W1 at *
            generalize wr.heap.size = G at *
            clear c0 c1 c2 hbel hrd hpd hbw
            have hga : G ≠ g := by omega
            have hgb : G ≠ g' := by omega
            go_upto_region 14 with (fail)
            go_cut [59] (fun t wx => t = .bool false ∧ Both wx g g' (s.text hi).2 ∧ Below w.heap.size w wx)
            case first =>
              have d1 : W1.cell? ⟨G, 1, none⟩ = some (.int .i64 lo) := by rw [hkA.cell]; rfl
              have d2 : W1.cell? ⟨G, 2, none⟩ = some (.int .i64 hi) := by rw [hkA.cell]; rfl
              have HKA := Lib.hid hkA
              clear hkA
              go_region_held3 (fun w' => w'.cell? ⟨G, 1, none⟩ = some (.int .i64 lo) ∧ w'.cell? ⟨G, 2, none⟩ = some (.int .i64 hi)) ((first | exact ⟨d1, d2⟩ | exact ⟨e1, e2⟩ | exact ⟨f1, f2⟩)) (first
                | (go_at_call 19; refine (rText_any g s hi _ (by exact hrA)).mono ?_; rintro e w2 ⟨rfl, hr2, hg2⟩; have hk2 := Blk.grown (w := W1.drew) HKA.out hg2 (by simpa using hga); have e1 : w2.cell? ⟨G, 1, none⟩ = some (.int .i64 lo) := (by rw [hk2.cell]; rfl); have e2 : w2.cell? ⟨G, 2, none⟩ = some (.int .i64 hi) := (by rw [hk2.cell]; rfl); have HK2 := Lib.hid hk2; clear hk2)
                | (go_at_call 24; refine (pText_any g' s hi _ (Prd.gb (w := W1.drew) hpA hg2 (Ne.symm hgg))).mono ?_; rintro e w3 ⟨rfl, hp3, hg3⟩; have hk3 := HK2.out.grown hg3 (by simpa using hgb); have f1 : w3.cell? ⟨G, 1, none⟩ = some (.int .i64 lo) := (by rw [hk3.cell]; rfl); have f2 : w3.cell? ⟨G, 2, none⟩ = some (.int .i64 hi) := (by rw [hk3.cell]; rfl); clear hk3))
              go_wp2_with fail
              go_meet
              exact ⟨rfl, ⟨hr2.gb (Prd.gb (w := W1.drew) hpA hg2 (Ne.symm hgg)) hg3 (Ne.symm hgg), hp3⟩, below_gb (below_gb hbA.drew hg2 hg0 (by have := hbA.size; exact this)) hg3 hg1 (by have h1 := hbA.size; have h2 := hg2.size; exact Nat.le_trans h1 h2)⟩
            case rest =>
              obtain ⟨rfl, ⟨hr2, hp2⟩, hb2⟩ := hcut
              generalize (s.text hi).2 = s2 at *
              clear hrA hpA hkA hbA hboth hbx
              obtain ⟨t, hblk, ht, hbl, hm2⟩ := id hp2
              obtain ⟨l2, bad2⟩ := s2
              simp only at ht hbl hm2 hblk
              have c0 : _ = some (Value.string t) := hblk.cell 0
              have c1 : _ = some (Value.bool bad2) := hblk.cell 1
              clear hblk
              by_cases hl2 : l2 = []
              · subst hl2
                have ht0 : t = ⟨#[]⟩ := by rw [text_eta t, ht]
                subst ht0
                clear ht hbl hm2
                cases bad2
                · have hd : (RS.mk [] false).done = true := rfl
                  go_wp2_with fail
                  go_quiet ((first | (go_at_call 18; exact Calls.quiet_of_same (rFail_any g _ _ (by exact hr2))) | (go_at_call 21; exact Calls.quiet_of_same (rLeft_any g _ _ (by exact hr2))) | (go_at_call 22; exact Calls.quiet_of_same (rDone_any g _ _ (by exact hr2)))))
                  go_wp2_with fail
                  go_roundw
                  case rel => exact ⟨k + 1, by omega, by go_num, ⟨_, hr2.drewN nq, hp2.drewN nq⟩, below_drewN hb2 nq⟩
                  case measure => simp [intOf]; omega

                · have hd : (RS.mk [] true).done = false := rfl
                  go_wp2_with fail
                  go_quiet ((first | (go_at_call 18; exact Calls.quiet_of_same (rFail_any g _ _ (by exact hr2))) | (go_at_call 21; exact Calls.quiet_of_same (rLeft_any g _ _ (by exact hr2))) | (go_at_call 22; exact Calls.quiet_of_same (rDone_any g _ _ (by exact hr2)))))
                  go_wp2_with fail
                  go_roundw
                  case rel => exact ⟨k + 1, by omega, by go_num, ⟨_, hr2.drewN nq, hp2.drewN nq⟩, below_drewN hb2 nq⟩
                  case measure => simp [intOf]; omega

              · have hbf : bad2 = false := by
                  cases bad2
                  · rfl
                  · exact absurd (hbl rfl) hl2
                subst hbf
                have hd : (RS.mk l2 false).done = false := by simp [RS.done, hl2]
                have hts : t.size = l2.length := by rw [← text_len, ht]
                have hte : t.toList.isEmpty = false := by rw [ByteArray.toList_eq, ht]; simp [hl2]
                have hte2 : t.data.toList.isEmpty = false := by rw [ht]; simp [hl2]
                have hte3 : (t.toList == []) = false := by rw [ByteArray.toList_eq, ht]; simp [hl2]
                have hte4 : ¬ t.toList = [] := by rw [ByteArray.toList_eq, ht]; exact hl2
                clear ht hbl hl2
                go_wp2_with fail
                go_quiet ((first | (go_at_call 18; exact Calls.quiet_of_same (rFail_any g _ _ (by exact hr2))) | (go_at_call 21; exact Calls.quiet_of_same (rLeft_any g _ _ (by exact hr2))) | (go_at_call 22; exact Calls.quiet_of_same (rDone_any g _ _ (by exact hr2)))))
                go_wp2_with fail
                go_roundw
                case rel => exact ⟨k + 1, by omega, by go_num, ⟨_, hr2.drewN nq, hp2.drewN nq⟩, below_drewN hb2 nq⟩
                case measure => simp [intOf]; omega

          · have q0 : (kd % 3 == 0) = false := by simp [hm]
            have q1 : (kd % 3 == 1) = false := by simp [hm]
            have q2 : (kd % 3 == 2) = true := by simp [hm]
            have HM := Lib.hid hm
            clear hm
            go_upto_region 17 with (fail)
            obtain ⟨hrd, hpd⟩ := hbo
            have hgl := hrd.lt
            have hpl := hpd.lt
            have hbA := hbel.alloc hbel.size (.cells #[.int .u8 kd, .int .i64 lo, .int .i64 hi] 40)
            have hrA : Rdr (wr.alloc (.cells #[.int .u8 kd, .int .i64 lo, .int .i64 hi] 40)) g s := hrd.alloc _
            have hpA : Prd (wr.alloc (.cells #[.int .u8 kd, .int .i64 lo, .int .i64 hi] 40)) g' s := hpd.keep (Below.heap_alloc _ _ _ hpl)
            have hkA : Blk (wr.alloc (.cells #[.int .u8 kd, .int .i64 lo, .int .i64 hi] 40)) wr.heap.size 40 #[.int .u8 kd, .int .i64 lo, .int .i64 hi] := Blk.new wr _ _
            generalize wr.alloc (.cells #[.int .u8 kd, .int .i64 lo, .int .i64 hi] 40) = W1 at *
            generalize wr.heap.size = G at *
            clear c0 c1 c2 hbel hrd hpd hbw
            have hga : G ≠ g := by omega
            have hgb : G ≠ g' := by omega
            go_cut [66] (fun t wx => t = .bool false ∧ Both wx g g' (s.bool).2 ∧ Below w.heap.size w wx)
            case first =>
              clear hkA
              go_wp2_with (first
                | (go_at_call 20; refine (rBool_any g s _ hrA).mono ?_; rintro e w2 ⟨rfl, hr2, hg2⟩)
                | (go_at_call 25; refine (pBool_any g' s _ (Prd.gb hpA hg2 (Ne.symm hgg))).mono ?_; rintro e w3 ⟨rfl, hp3, hg3⟩))
              go_meet
              exact ⟨rfl, ⟨hr2.gb (Prd.gb hpA hg2 (Ne.symm hgg)) hg3 (Ne.symm hgg), hp3⟩, below_gb (below_gb hbA hg2 hg0 hbA.size) hg3 hg1 (by have h1 := hbA.size; have h2 := hg2.size; exact Nat.le_trans h1 h2)⟩
            case rest =>
              obtain ⟨rfl, ⟨hr2, hp2⟩, hb2⟩ := hcut
              generalize (s.bool).2 = s2 at *
              clear hrA hpA hkA hbA hboth hbx
              obtain ⟨t, hblk, ht, hbl, hm2⟩ := id hp2
              obtain ⟨l2, bad2⟩ := s2
              simp only at ht hbl hm2 hblk
              have c0 : _ = some (Value.string t) := hblk.cell 0
              have c1 : _ = some (Value.bool bad2) := hblk.cell 1
              clear hblk
              by_cases hl2 : l2 = []
              · subst hl2
                have ht0 : t = ⟨#[]⟩ := by rw [text_eta t, ht]
                subst ht0
                clear ht hbl hm2
                cases bad2
                · have hd : (RS.mk [] false).done = true := rfl
                  go_wp2_with fail
                  go_quiet ((first | (go_at_call 18; exact Calls.quiet_of_same (rFail_any g _ _ (by exact hr2))) | (go_at_call 21; exact Calls.quiet_of_same (rLeft_any g _ _ (by exact hr2))) | (go_at_call 22; exact Calls.quiet_of_same (rDone_any g _ _ (by exact hr2)))))
                  go_wp2_with fail
                  go_roundw
                  case rel => exact ⟨k + 1, by omega, by go_num, ⟨_, hr2.drewN nq, hp2.drewN nq⟩, below_drewN hb2 nq⟩
                  case measure => simp [intOf]; omega

                · have hd : (RS.mk [] true).done = false := rfl
                  go_wp2_with fail
                  go_quiet ((first | (go_at_call 18; exact Calls.quiet_of_same (rFail_any g _ _ (by exact hr2))) | (go_at_call 21; exact Calls.quiet_of_same (rLeft_any g _ _ (by exact hr2))) | (go_at_call 22; exact Calls.quiet_of_same (rDone_any g _ _ (by exact hr2)))))
                  go_wp2_with fail
                  go_roundw
                  case rel => exact ⟨k + 1, by omega, by go_num, ⟨_, hr2.drewN nq, hp2.drewN nq⟩, below_drewN hb2 nq⟩
                  case measure => simp [intOf]; omega

              · have hbf : bad2 = false := by
                  cases bad2
                  · rfl
                  · exact absurd (hbl rfl) hl2
                subst hbf
                have hd : (RS.mk l2 false).done = false := by simp [RS.done, hl2]
                have hts : t.size = l2.length := by rw [← text_len, ht]
                have hte : t.toList.isEmpty = false := by rw [ByteArray.toList_eq, ht]; simp [hl2]
                have hte2 : t.data.toList.isEmpty = false := by rw [ht]; simp [hl2]
                have hte3 : (t.toList == []) = false := by rw [ByteArray.toList_eq, ht]; simp [hl2]
                have hte4 : ¬ t.toList = [] := by rw [ByteArray.toList_eq, ht]; exact hl2
                clear ht hbl hl2
                go_wp2_with fail
                go_quiet ((first | (go_at_call 18; exact Calls.quiet_of_same (rFail_any g _ _ (by exact hr2))) | (go_at_call 21; exact Calls.quiet_of_same (rLeft_any g _ _ (by exact hr2))) | (go_at_call 22; exact Calls.quiet_of_same (rDone_any g _ _ (by exact hr2)))))
                go_wp2_with fail
                go_roundw
                case rel => exact ⟨k + 1, by omega, by go_num, ⟨_, hr2.drewN nq, hp2.drewN nq⟩, below_drewN hb2 nq⟩
                case measure => simp [intOf]; omega

        · go_wp2_with fail
          go_ret
          exact ⟨rfl, hbel⟩
end Go.Proofs.Ytnadmijfbfgcnaa.wordReads
