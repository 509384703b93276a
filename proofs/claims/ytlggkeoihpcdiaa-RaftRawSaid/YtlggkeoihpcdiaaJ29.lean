/- RaftRaw: whatever comes, the term, and what is committed, never fall; in a term it votes for one at most; committed entries stay; what was saved, one save upon another, is the state. For every input, without a condition. -/
import Derived.Test.YtlggkeoihpcdiaaRows
import Derived.ProofKit
import Derived.Deep.CutBlock
import Derived.Deep.RegionHeld3
import Derived.OpenShut
import Derived.BigQuiet
import Derived.Test.YtlggkeoihpcdiaaJ27
import Derived.Test.YtlggkeoihpcdiaaJ28
namespace Go.Proofs.Ytlggkeoihpcdiaa.raftRaw
open Go.ChangeShapes Go.WideShapes Go.ChangeAt Go.RowKit Go.Deep
set_option linter.unusedVariables false

set_option maxRecDepth 100000 in
set_option maxHeartbeats 16000000 in
theorem walk_good (id n el be : Int) (A' : Option Addr) (n' c' : Nat) (f : Nat → RawL) (w : World) (ha : RawsL w w.heap.size A' n' f) (hz1 : ¬ 80 < n') (hok : (1 ≤ n ∧ n ≤ 7) ∧ (0 ≤ id ∧ id ≤ n - 1) ∧ (1 ≤ el ∧ el ≤ 1000) ∧ (1 ≤ be ∧ be ≤ el)) :
    Calls Try.prog 6 #[.int .i64 id, .int .i64 n, .int .i64 el, .int .i64 be, .slice A' n' c'] w fun e w' => e = .returned (.bool true) ∧ Below w.heap.size w w' := by
  have HZ8 := Lib.hid (show n' ≤ 80 by omega)
  have HA := Lib.hid ha
  clear ha
  have hz2 : ¬ (80 : Int) < (n' : Int) := by omega
  clear hz1
  go_enter Try.func6, Try.ntmps6
  go_wp2_with fail
  refine (fixed8_any _).mono ?_
  rintro e w1 ⟨rfl, hb1⟩
  have HNW := Lib.hid (nNew_any id n el be ⟨0, -1, []⟩ none 0 0 w1 (Ents.nil _ _ _) rfl (by omega) (by decide) hok.1 hok.2.1 hok.2.2.1 hok.2.2.2)
  have a1 : ¬ n < 1 := by omega
  have a2 : ¬ (7 : Int) < n := by omega
  have a3 : ¬ id < 0 := by omega
  have a4 : ¬ n ≤ id := by omega
  have a5 : ¬ el < 1 := by omega
  have a6 : ¬ (1000 : Int) < el := by omega
  have a7 : ¬ be < 1 := by omega
  have a8 : ¬ el < be := by omega
  have HOK := Lib.hid hok
  have HB1 := Lib.hid hb1
  clear hok hb1
  go_wp2_with fail
  refine HNW.out.mono ?_
  rintro e w2 ⟨g, S2, rfl, hx2, hb2⟩
  have HX2 := Lib.hid hx2
  have HB2 := Lib.hid hb2
  clear hx2 hb2 HNW
  go_upto_region 11 with (fail)
  have hK := Blk.new w2 25 #[.int .i64 0, .int .i64 (-1), .slice none 0 0]
  have hbK := (Below.refl w2.heap.size w2).alloc (Nat.le_refl _) (.cells #[.int .i64 0, .int .i64 (-1), .slice none 0 0] 25)
  have HMID := Lib.hid (show Mid w1.heap.size w2.heap.size g S2 (newF id n el be ⟨0, -1, []⟩) none [] ⟨0, -1, []⟩ none 0 0 w (w2.alloc (.cells #[.int .i64 0, .int .i64 (-1), .slice none 0 0] 25)) from ⟨HX2.out.on hbK, Kept.nil _ _ _, hK, Kept.nil _ _ _, rfl, Nat.le_refl _, HB1.out.size, bthen (bthen HB1.out HB2.out) hbK, Nat.le_trans HB2.out.size hbK.size, HB2.out.size⟩)
  have HRI := Lib.hid (raw_new id n el be HOK.out.1 HOK.out.2.1 HOK.out.2.2.1 HOK.out.2.2.2)
  clear hK hbK HX2 HB2 a1 a2 a3 a4 a5 a6 a7 a8
  generalize w2.alloc (.cells #[.int .i64 0, .int .i64 (-1), .slice none 0 0] 25) = w3 at *
  generalize w2.heap.size = K at *
  generalize w1.heap.size = B0 at *
  go_wp2_with fail
  go_loopw [14, 15, 16, 85] (fun v14 v15 v16 iv wr => ∃ (k : Nat) (x : NodeM) (S : Nat → Prop) (A1 : Option Addr) (n1 c1 : Nat) (kp : StP) (A2 : Option Addr) (n2 c2 : Nat), k ≤ n' ∧ iv = .int .i64 (k : Int) ∧ x.commit = (n1 : Int) ∧ v14 = .slice A1 n1 c1 ∧ v15 = .int .i64 x.term ∧ v16 = .int .i64 x.vote ∧ Mid B0 K g S x A1 (x.log.take n1) kp A2 n2 c2 w wr ∧ RawInv k x ∧ x.out = [] ∧ KeptOf x kp ∧ x.id = id ∧ x.n = n ∧ n2 ≤ 1024) (fun _ _ _ iv _ => n' - (intOf iv).toNat)
  case atStart => exact ⟨0, newF id n el be ⟨0, -1, []⟩, S2, none, 0, 0, ⟨0, -1, []⟩, none, 0, 0, Nat.zero_le _, rfl, rfl, rfl, rfl, rfl, HMID.out, HRI.out, rfl, ⟨fun _ => ⟨rfl, rfl⟩, fun _ => rfl, fun h => absurd h (by simp [newF])⟩, rfl, rfl, Nat.zero_le _⟩
  case round =>
    obtain ⟨k, x, S, A1, n1, c1, kp, A2, n2, c2, hk, rfl, hcm, rfl, rfl, rfl, hmid, hri, hout, hko, hid, hxn, hn2⟩ := hrel
    have HN2 := Lib.hid hn2
    clear hn2
    clear HMID HRI
    by_cases hlt : k < n'
    · have hfk := HA.out.1 k hlt
      obtain ⟨b, off, rfl, hbw, hcells⟩ := HA.out.2 (by omega)
      have hcc := hcells k hlt
      generalize f k = v at hfk hcc
      obtain ⟨kd, dr, ⟨m, A, mn, mc⟩, s⟩ := v
      simp only at hfk
      obtain ⟨⟨hk0, hk255⟩, ⟨hel, hnc, hcm9, hes⟩, hmi0, hmi1⟩ := hfk
      have hb9 := hmid.below
      have d := fun i u (hu : (RawL.cells ⟨kd, dr, ⟨m, A, mn, mc⟩, s⟩)[i]? = some u) => (hb9.cell (p := ⟨b, off + k * 12 + i, none⟩) hbw).trans (hcc i u hu)
      have d0 : wr.cell? ⟨b, off + k * 12, none⟩ = some (.int .u8 kd) := d 0 _ rfl
      have d1 : wr.cell? ⟨b, off + k * 12 + 1, none⟩ = some (.int .i64 dr) := d 1 _ rfl
      have d2 : wr.cell? ⟨b, off + k * 12 + 2, none⟩ = some (.int .i64 m.k) := d 2 _ rfl
      have d3 : wr.cell? ⟨b, off + k * 12 + 3, none⟩ = some (.int .i64 m.f) := d 3 _ rfl
      have d4 : wr.cell? ⟨b, off + k * 12 + 4, none⟩ = some (.int .i64 m.t) := d 4 _ rfl
      have d5 : wr.cell? ⟨b, off + k * 12 + 5, none⟩ = some (.int .i64 m.term) := d 5 _ rfl
      have d6 : wr.cell? ⟨b, off + k * 12 + 6, none⟩ = some (.int .i64 m.i) := d 6 _ rfl
      have d7 : wr.cell? ⟨b, off + k * 12 + 7, none⟩ = some (.int .i64 m.lt) := d 7 _ rfl
      have d8 : wr.cell? ⟨b, off + k * 12 + 8, none⟩ = some (.int .i64 m.c) := d 8 _ rfl
      have d9 : wr.cell? ⟨b, off + k * 12 + 9, none⟩ = some (.bool m.yes) := d 9 _ rfl
      have d10 : wr.cell? ⟨b, off + k * 12 + 10, none⟩ = some (.slice A mn mc) := d 10 _ rfl
      have d11 : wr.cell? ⟨b, off + k * 12 + 11, none⟩ = some (.string s) := d 11 _ rfl
      have hlt' : (k : Int) < (n' : Int) := by omega
      have HK := Lib.hid (show k < n' from hlt)
      have HMID := Lib.hid hmid
      have HPU := Lib.hid (And.intro hri (And.intro hout (And.intro hko (And.intro hid (And.intro hxn hcm)))))
      have HME := Lib.hid (And.intro hel (And.intro hnc (And.intro hcm9 (And.intro hmi0 hmi1))))
      have HES := Lib.hid hes
      have HKD := Lib.hid (And.intro hk0 hk255)
      clear hcells hcc d hk hmid hri hout hko hid hxn hcm hel hnc hcm9 hes hmi0 hmi1 hb9 hbw hlt hz2 hk0 hk255
      go_upto_region 14 with (fail)
      have hG := Blk.new wr 63 #[.int .u8 kd, .int .i64 dr, .int .i64 m.k, .int .i64 m.f, .int .i64 m.t, .int .i64 m.term, .int .i64 m.i, .int .i64 m.lt, .int .i64 m.c, .bool m.yes, .slice A mn mc, .string s]
      have hbG := (Below.refl wr.heap.size wr).alloc (Nat.le_refl _) (.cells #[.int .u8 kd, .int .i64 dr, .int .i64 m.k, .int .i64 m.f, .int .i64 m.t, .int .i64 m.term, .int .i64 m.i, .int .i64 m.lt, .int .i64 m.c, .bool m.yes, .slice A mn mc, .string s] 63)
      have HSET := Lib.hid (fun W (hW : Below wr.heap.size wr W) => HMID.out.on hW)
      have HBR := Lib.hid hbG
      have HM1 := Lib.hid (HMID.out.on hbG)
      have HG1 := Lib.hid (show Blk _ wr.heap.size 63 (actCells kd dr m A mn mc s) from hG)
      clear hG hbG d0 d1 d2 d3 d4 d5 d6 d7 d8 d9 d10 d11 HMID
      generalize wr.alloc (.cells #[.int .u8 kd, .int .i64 dr, .int .i64 m.k, .int .i64 m.f, .int .i64 m.t, .int .i64 m.term, .int .i64 m.i, .int .i64 m.lt, .int .i64 m.c, .bool m.yes, .slice A mn mc, .string s] 63) = W1 at *
      generalize wr.heap.size = G at *
      obtain ⟨⟨e0, e1, e2, e3, e4, e5⟩, e6, e7, e8, e9, e10, e11⟩ := ract_at HG1.out
      have hrow : W1.heap[G]? = some (.cells #[.int .u8 kd, .int .i64 dr, .int .i64 m.k, .int .i64 m.f, .int .i64 m.t, .int .i64 m.term, .int .i64 m.i, .int .i64 m.lt, .int .i64 m.c, .bool m.yes, .slice A mn mc, .string s] 63 (0, 0)) := HG1.out
      have HFEW := Lib.hid (few8_any m A mn mc W1 (Sees.more (Sees.below HES.out HM1.out.below) HM1.out.below.size) HME.out.1 (Nat.le_trans HME.out.2.1 HME.out.2.2.1))
      go_wp2_with fail
      refine HFEW.out.mono ?_
      rintro e w4 ⟨rfl, hb4⟩
      have HM4 := Lib.hid (HM1.out.on hb4)
      have HG4 := Lib.hid (HG1.out.below hb4 HG1.out.lt)
      have HBR4 := Lib.hid (HBR.out.trans (hb4.mono (Nat.le_of_lt HG1.out.lt)))
      clear e0 e1 e2 e3 e4 e5 e6 e7 e8 e9 e10 e11 hrow hb4 HM1 HG1 HFEW HBR
      obtain ⟨⟨e0, e1, e2, e3, e4, e5⟩, e6, e7, e8, e9, e10, e11⟩ := ract_at HG4.out
      have hrow : w4.heap[G]? = some (.cells #[.int .u8 kd, .int .i64 dr, .int .i64 m.k, .int .i64 m.f, .int .i64 m.t, .int .i64 m.term, .int .i64 m.i, .int .i64 m.lt, .int .i64 m.c, .bool m.yes, .slice A mn mc, .string s] 63 (0, 0)) := HG4.out
      cases hfew : fewF m
      · as_aux_lemma =>
        have HB := Lib.hid HM4.out.below
        go_wp2_with fail
        go_ret
        exact ⟨rfl, HB.out⟩
      · by_cases h600 : (600 : Int) < (s.size : Int)
        · as_aux_lemma =>
          have HB := Lib.hid HM4.out.below
          go_wp2_with fail
          go_ret
          exact ⟨rfl, HB.out⟩
        · clear hfew
          go_upto_block 2 with (fail)
          go_cut [] (fun wx => ∃ y S', Mid B0 K g S' y A1 (x.log.take n1) kp A2 n2 c2 w wx ∧ RawInv ((k : Int) + 1) y ∧ Adv x y ∧ ∃ cs, Blk wx G 63 cs ∧ cs[0]? = some (.int .u8 kd))
          case first => as_aux_lemma =>
            have hk0 := HKD.out.1
            have hk255 := HKD.out.2
            have HKB := Lib.hid (show (0 : Int) ≤ (k : Int) ∧ (k : Int) ≤ 1000 by have := HK.out; have := HZ8.out; omega)
            rcases (show kd % 4 = 0 ∨ kd % 4 = 1 ∨ kd % 4 = 2 ∨ kd % 4 = 3 by omega) with hq | hq | hq | hq
            · as_aux_lemma =>
              have q0 : (kd % 4 == 0) = true := by simp [hq]
              have HTI := Lib.hid (rawTick_any (k : Int) B0 g x dr S w4 HM4.out.node HPU.out.1 HKB.out.2 HPU.out.2.1 HM4.out.size)
              have HGD := Lib.hid (good_tick HPU.out.1 HKB.out.1 dr)
              clear hq
              go_wp2_with fail
              refine HTI.out.mono ?_
              rintro e w5 ⟨rfl, hm⟩
              obtain ⟨S5, hm5, ht5, _⟩ := HM4.out.moves hm
              have HM5 := Lib.hid hm5
              have HG5 := Lib.hid (HM4.out.keeps ht5 HG4.out (by decide) (by decide) (by decide) (by decide) (by decide))
              clear hm hm5 ht5 e0 e1 e2 e3 e4 e5 e6 e7 e8 e9 e10 e11 hrow
              go_wp2_with fail
              go_meet
              exact ⟨_, S5, HM5.out, HGD.out.1, HGD.out.2, _, HG5.out, rfl⟩
            · as_aux_lemma =>
              have q0 : (kd % 4 == 0) = false := by simp [hq]
              have q1 : (kd % 4 == 1) = true := by simp [hq]
              have f4 := HG4.out.frozen 4
              have hb5 := HBR4.out.setCell (p := ⟨G, 4, none⟩) (Nat.le_refl G) (.int .i64 id)
              have hg5 : Blk (w4.setCell ⟨G, 4, none⟩ (.int .i64 id)) G 63 (actCells kd dr { m with t := id } A mn mc s) := HG4.out.set_ 4 (.int .i64 id)
              have HM5 := Lib.hid (HSET.out _ hb5)
              have HG5 := Lib.hid hg5
              clear hq hb5 hg5
              go_upto_region 21 with (fail)
              generalize w4.setCell ⟨G, 4, none⟩ (.int .i64 id) = w5 at *
              clear e0 e1 e2 e3 e4 e5 e6 e7 e8 e9 e10 e11 hrow f4
              obtain ⟨⟨e0, e1, e2, e3, e4, e5⟩, e6, e7, e8, e9, e10, e11⟩ := ract_at HG5.out
              have hrow : w5.heap[G]? = some (.cells #[.int .u8 kd, .int .i64 dr, .int .i64 m.k, .int .i64 m.f, .int .i64 id, .int .i64 m.term, .int .i64 m.i, .int .i64 m.lt, .int .i64 m.c, .bool m.yes, .slice A mn mc, .string s] 63 (0, 0)) := HG5.out
              have HST := Lib.hid (rawStep_any (k : Int) B0 g x { m with t := id } A mn mc S w5 HM5.out.node HPU.out.1 HPU.out.2.1 (Sees.more (Sees.below HES.out HM5.out.below) HM5.out.b0) HME.out.1 HME.out.2.1 HME.out.2.2.2.1 HME.out.2.2.2.2 HM5.out.size)
              have HGD := Lib.hid (good_step HPU.out.1 { m with t := id } HKB.out.1)
              go_wp2_with fail
              refine HST.out.mono ?_
              rintro e w6 ⟨rfl, hm⟩
              obtain ⟨S6, hm6, ht6, _⟩ := HM5.out.moves hm
              have HM6 := Lib.hid hm6
              have HG6 := Lib.hid (HM5.out.keeps ht6 HG5.out (by decide) (by decide) (by decide) (by decide) (by decide))
              clear hm hm6 ht6 e0 e1 e2 e3 e4 e5 e6 e7 e8 e9 e10 e11 hrow
              go_wp2_with fail
              go_meet
              exact ⟨_, S6, HM6.out, HGD.out.1.mono (by omega), HGD.out.2, _, HG6.out, rfl⟩
            · as_aux_lemma =>
              have q0 : (kd % 4 == 0) = false := by simp [hq]
              have q1 : (kd % 4 == 1) = false := by simp [hq]
              have q2 : (kd % 4 == 2) = true := by simp [hq]
              have HRO := Lib.hid (nRole_any B0 g x S w4 HM4.out.node HPU.out.1.n0)
              obtain ⟨g1, g2, g3, g4⟩ := good_propose HPU.out.1 s
              have hpr := rawPropose_any (k : Int) B0 g x s S w4 HM4.out.node HPU.out.1 HPU.out.2.1 HM4.out.size
              obtain ⟨y, i, fa, hP⟩ : ∃ y i fa, proposeF x s = (y, i, fa) := ⟨_, _, _, rfl⟩
              rw [hP] at g1 g2 g3 g4 hpr
              simp only at g1 g2 g3 g4 hpr
              have HGD := Lib.hid g1
              have HPR := Lib.hid hpr
              have hways : (x.role ≠ 3 ∧ i = 0 ∧ fa = 13) ∨ (x.role = 3 ∧ 512 < s.size ∧ i = 0 ∧ fa = 4) ∨ (x.role = 3 ∧ ¬ 512 < s.size ∧ fa = 0 ∧ i = y.log.length) ∨ (x.role = 3 ∧ ¬ 512 < s.size ∧ (fa = 5 ∨ fa = 7)) := by
                by_cases h3 : x.role = 3
                · by_cases h5 : 512 < s.size
                  · have h9 := g3 h3 h5
                    injection h9 with h9 h8
                    exact .inr (.inl ⟨h3, h5, h9, h8⟩)
                  · rcases g4 h3 (by omega) with ⟨h9, h8⟩ | h9 | h9
                    · exact .inr (.inr (.inl ⟨h3, h5, h9, h8⟩))
                    · exact .inr (.inr (.inr ⟨h3, h5, .inl h9⟩))
                    · exact .inr (.inr (.inr ⟨h3, h5, .inr h9⟩))
                · have h9 := g2 h3
                  injection h9 with h9 h8
                  exact .inl ⟨h3, h9, h8⟩
              clear hq g1 g2 g3 g4 hpr hP
              rcases hways with ⟨h3, rfl, rfl⟩ | ⟨h3, h5, rfl, rfl⟩ | ⟨h3, h5, rfl, rfl⟩ | ⟨h3, h5, h7⟩
              · have r3 : (x.role == 3) = false := by rw [beq_eq_false_iff_ne]; exact h3
                clear h3
                go_wp2_with fail
                refine HRO.out.mono ?_
                rintro e w5 ⟨rfl, rfl⟩
                go_wp2_with fail
                refine HPR.out.mono ?_
                rintro e w6 ⟨rfl, hm⟩
                obtain ⟨S6, hm6, ht6, _⟩ := HM4.out.moves hm
                have HM6 := Lib.hid hm6
                have HG6 := Lib.hid (HM4.out.keeps ht6 HG4.out (by decide) (by decide) (by decide) (by decide) (by decide))
                clear hm hm6 ht6 e0 e1 e2 e3 e4 e5 e6 e7 e8 e9 e10 e11 hrow
                obtain ⟨⟨e0, _⟩, _, _, _, _, _, e11⟩ := ract_at HG6.out
                go_wp2_with fail
                go_meet
                exact ⟨_, S6, HM6.out, HGD.out.1.mono (by omega), HGD.out.2, _, HG6.out, rfl⟩
              · have r3 : (x.role == 3) = true := by rw [beq_iff_eq]; exact h3
                have r5 : (512 : Int) < (s.size : Int) := by omega
                clear h3
                go_wp2_with fail
                refine HRO.out.mono ?_
                rintro e w5 ⟨rfl, rfl⟩
                go_wp2_with fail
                refine HPR.out.mono ?_
                rintro e w6 ⟨rfl, hm⟩
                obtain ⟨S6, hm6, ht6, _⟩ := HM4.out.moves hm
                have HM6 := Lib.hid hm6
                have HG6 := Lib.hid (HM4.out.keeps ht6 HG4.out (by decide) (by decide) (by decide) (by decide) (by decide))
                clear hm hm6 ht6 e0 e1 e2 e3 e4 e5 e6 e7 e8 e9 e10 e11 hrow
                obtain ⟨⟨e0, _⟩, _, _, _, _, _, e11⟩ := ract_at HG6.out
                go_wp2_with fail
                go_meet
                exact ⟨_, S6, HM6.out, HGD.out.1.mono (by omega), HGD.out.2, _, HG6.out, rfl⟩
              · have r3 : (x.role == 3) = true := by rw [beq_iff_eq]; exact h3
                have r5 : decide ((512 : Int) < (s.size : Int)) = false := decide_eq_false (by omega)
                clear h3 h5
                go_wp2_with fail
                refine HRO.out.mono ?_
                rintro e w5 ⟨rfl, rfl⟩
                go_wp2_with fail
                refine HPR.out.mono ?_
                rintro e w6 ⟨rfl, hm⟩
                obtain ⟨S6, hm6, ht6, _⟩ := HM4.out.moves hm
                have HM6 := Lib.hid hm6
                have HG6 := Lib.hid (HM4.out.keeps ht6 HG4.out (by decide) (by decide) (by decide) (by decide) (by decide))
                have HLA := Lib.hid (nLast_any B0 g y S6 w6 hm6.node HGD.out.1.n0 (by have := HGD.out.1.len; omega))
                clear hm hm6 ht6 e0 e1 e2 e3 e4 e5 e6 e7 e8 e9 e10 e11 hrow
                obtain ⟨⟨e0, _⟩, _, _, _, _, _, e11⟩ := ract_at HG6.out
                have hll : ((y.log.length : Int) != (y.log.length : Int)) = false := by simp
                go_wp2_with fail
                refine HLA.out.mono ?_
                rintro e w7 ⟨rfl, rfl⟩
                go_wp2_with fail
                go_meet
                exact ⟨_, S6, HM6.out, HGD.out.1.mono (by omega), HGD.out.2, _, HG6.out, rfl⟩
              · have r3 : (x.role == 3) = true := by rw [beq_iff_eq]; exact h3
                have r5 : decide ((512 : Int) < (s.size : Int)) = false := decide_eq_false (by omega)
                clear h5
                rcases h7 with rfl | rfl
                · clear h3
                  go_wp2_with fail
                  refine HRO.out.mono ?_
                  rintro e w5 ⟨rfl, rfl⟩
                  go_wp2_with fail
                  refine HPR.out.mono ?_
                  rintro e w6 ⟨rfl, hm⟩
                  obtain ⟨S6, hm6, ht6, _⟩ := HM4.out.moves hm
                  have HM6 := Lib.hid hm6
                  have HG6 := Lib.hid (HM4.out.keeps ht6 HG4.out (by decide) (by decide) (by decide) (by decide) (by decide))
                  clear hm hm6 ht6 e0 e1 e2 e3 e4 e5 e6 e7 e8 e9 e10 e11 hrow
                  obtain ⟨⟨e0, _⟩, _, _, _, _, _, e11⟩ := ract_at HG6.out
                  go_wp2_with fail
                  go_meet
                  exact ⟨_, S6, HM6.out, HGD.out.1.mono (by omega), HGD.out.2, _, HG6.out, rfl⟩
                · clear h3
                  go_wp2_with fail
                  refine HRO.out.mono ?_
                  rintro e w5 ⟨rfl, rfl⟩
                  go_wp2_with fail
                  refine HPR.out.mono ?_
                  rintro e w6 ⟨rfl, hm⟩
                  obtain ⟨S6, hm6, ht6, _⟩ := HM4.out.moves hm
                  have HM6 := Lib.hid hm6
                  have HG6 := Lib.hid (HM4.out.keeps ht6 HG4.out (by decide) (by decide) (by decide) (by decide) (by decide))
                  clear hm hm6 ht6 e0 e1 e2 e3 e4 e5 e6 e7 e8 e9 e10 e11 hrow
                  obtain ⟨⟨e0, _⟩, _, _, _, _, _, e11⟩ := ract_at HG6.out
                  go_wp2_with fail
                  go_meet
                  exact ⟨_, S6, HM6.out, HGD.out.1.mono (by omega), HGD.out.2, _, HG6.out, rfl⟩
            · as_aux_lemma =>
              have q0 : (kd % 4 == 0) = false := by simp [hq]
              have q1 : (kd % 4 == 1) = false := by simp [hq]
              have q2 : (kd % 4 == 2) = false := by simp [hq]
              clear hq
              go_wp2_with fail
              go_meet
              exact ⟨x, S, HM4.out, HPU.out.1.mono (by omega), Adv.refl x, _, HG4.out, rfl⟩
          case rest =>
            obtain ⟨y, S5, hmid, hri5, hadv, cs, hgb, hcs⟩ := hcut
            have HMD := Lib.hid hmid
            have HR5 := Lib.hid hri5
            have HAD := Lib.hid hadv
            have HGB := Lib.hid (And.intro hgb hcs)
            have HKO := Lib.hid (show KeptOf y kp ∧ y.id = id ∧ y.n = n ∧ (n1 : Int) ≤ y.commit from ⟨HPU.out.2.2.1.adv hadv HPU.out.1.f0 hri5.f0, hadv.id.trans HPU.out.2.2.2.1, hadv.n.trans HPU.out.2.2.2.2.1, by have := hadv.commit; rw [HPU.out.2.2.2.2.2] at this; exact this⟩)
            have HVO := Lib.hid (And.intro hadv.term hadv.vote)
            clear hmid hri5 hadv hgb hcs e0 e1 e2 e3 e4 e5 e6 e7 e8 e9 e10 e11 hrow HM4 HG4 HBR4 HME HES HSET h600
            have HSTA := Lib.hid (nState_any B0 g y S5 wc HMD.out.node HR5.out.n0 (by have := HR5.out.len; omega))
            go_wp2_with fail
            refine HSTA.out.mono ?_
            rintro e w5 ⟨As, ns, cs9, rfl, hls, hfs, hbs⟩
            subst hls
            have hQ := Blk.new w5 25 #[.int .i64 y.term, .int .i64 y.vote, .slice As y.log.length cs9]
            have hbQ := (Below.refl w5.heap.size w5).alloc (Nat.le_refl _) (.cells #[.int .i64 y.term, .int .i64 y.vote, .slice As y.log.length cs9] 25)
            have HM6 := Lib.hid ((HMD.out.on hbs).on hbQ)
            have HG6 := Lib.hid ((HGB.out.1.below hbs HGB.out.1.lt).below hbQ (Nat.lt_of_lt_of_le HGB.out.1.lt hbs.size))
            have HGC := Lib.hid HGB.out.2
            have HRS := Lib.hid (show Ents _ _ As y.log from Sees.on hfs.sees hbQ)
            have HKS := Lib.hid (show Kept (fun i => S5 i ∨ i = K) _ As y.log from (Kept.of_free hfs rfl (fun k hk hs => absurd (hfs.foot_at k hk).1 (by rcases hs with hs | hs; exact Nat.not_le.2 (HMD.out.node.has_lt k hs); rw [hs]; exact Nat.not_le.2 HMD.out.kb.lt))).on hbQ)
            have HKQ := Lib.hid (show K < w5.heap.size from (HMD.out.on hbs).kb.lt)
            have HQ6 := Lib.hid hQ
            clear hfs hbs hQ hbQ HMD HGB HSTA
            go_upto_region 28 with (fail)
            generalize w5.alloc (.cells #[.int .i64 y.term, .int .i64 y.vote, .slice As y.log.length cs9] 25) = w6 at *
            generalize w5.heap.size = Q at *
            have HQC := Lib.hid (fun W (hW : Below w6.heap.size w6 W) =>
              have hk := HQ6.out.below hW HQ6.out.lt
              (⟨by rw [hk.cell]; rfl, by rw [hk.cell]; rfl, by rw [hk.cell]; rfl, hk⟩ : W.cell? ⟨Q, 0, none⟩ = some (.int .i64 y.term) ∧ W.cell? ⟨Q, 1, none⟩ = some (.int .i64 y.vote) ∧ W.cell? ⟨Q, 2, none⟩ = some (.slice As y.log.length cs9) ∧ W.heap[Q]? = some (.cells #[.int .i64 y.term, .int .i64 y.vote, .slice As y.log.length cs9] 25 (0, 0))))
            obtain ⟨q0, q1, q2, hrq⟩ := HQC.out w6 (Below.refl _ _)
            go_cut [210] (fun v wx => v = .bool false ∧ Below w6.heap.size w6 wx)
            case first => as_aux_lemma =>
              have hri6 := fun W (hW : Below w6.heap.size w6 W) => refRight6_any ⟨y.term, y.vote, y.log⟩ As y.log.length cs9 W (Sees.on HRS.out hW) rfl (by have := HR5.out.len; omega)
              rw [HR5.out.right] at hri6
              have HCL : ∃ (I : Type) (F : I → World) (n0 : I), F n0 = w6.drew ∧ (∀ k, Below w6.heap.size w6 (F k)) ∧ (∀ k, (F k).cell? ⟨Q, 0, none⟩ = some (.int .i64 y.term)) ∧ (∀ k, (F k).cell? ⟨Q, 1, none⟩ = some (.int .i64 y.vote)) ∧ (∀ k, (F k).cell? ⟨Q, 2, none⟩ = some (.slice As y.log.length cs9)) ∧ (∀ k, (F k).heap[Q]? = some (.cells #[.int .i64 y.term, .int .i64 y.vote, .slice As y.log.length cs9] 25 (0, 0))) ∧
                  Hid (∀ k, Calls Try.prog 15 #[.agg #[.int .i64 y.term, .int .i64 y.vote, .slice As y.log.length cs9]] (F k) fun e w' => e = .returned (.bool true) ∧ ∃ m, w' = F m) ∧
                  Hid (∀ k, Calls Try.prog 35 #[.pointer (some ⟨g, 0, none⟩)] (F k) fun e w' => e = .returned (.int .i64 y.commit) ∧ ∃ m, w' = F m) ∧
                  Hid (∀ k, Calls Try.prog 33 #[.pointer (some ⟨g, 0, none⟩)] (F k) fun e w' => e = .returned (.int .i64 (y.log.length : Int)) ∧ ∃ m, w' = F m) ∧
                  Hid (∀ k, Calls Try.prog 36 #[.pointer (some ⟨g, 0, none⟩)] (F k) fun e w' => e = .returned (.int .i64 y.term) ∧ ∃ m, w' = F m) :=
                ⟨On w6, On.w, On.first w6, rfl, On.below, fun k => (HQC.out _ k.below).1, fun k => (HQC.out _ k.below).2.1, fun k => (HQC.out _ k.below).2.2.1, fun k => (HQC.out _ k.below).2.2.2,
                  Lib.hid (fun k => k.call (hri6 _ k.below)),
                  Lib.hid (fun k => k.same (nCommit_any B0 g y S5 _ (HM6.out.node.on k.below) HR5.out.n0)),
                  Lib.hid (fun k => k.same (nLast_any B0 g y S5 _ (HM6.out.node.on k.below) HR5.out.n0 (by have := HR5.out.len; omega))),
                  Lib.hid (fun k => k.same (nTerm_any B0 g y S5 _ (HM6.out.node.on k.below) HR5.out.n0))⟩
              obtain ⟨I, F, n0, hF0, hFB, hF1, hF2, hF3, hF4, HRI, HCM, HLA, HTE⟩ := HCL
              have HFB := Lib.hid hFB
              have HF0 := Lib.hid hF0
              haveI : Nonempty I := ⟨n0⟩
              clear hri6 hFB hF0 q0 q1 q2 hrq
              have t1 : decide (y.term < x.term) = false := decide_eq_false (by have := HVO.out.1; omega)
              have t2 : decide (y.commit < (n1 : Int)) = false := decide_eq_false (by have := HKO.out.2.2.2; omega)
              have t3 : decide ((y.log.length : Int) < y.commit) = false := decide_eq_false (by have := HR5.out.c1; omega)
              have t4 : (y.term != y.term) = false := by simp
              have t5 : ((y.log.length : Int) != (y.log.length : Int)) = false := by simp
              have hways : ((y.term == x.term) = false) ∨ ((y.term == x.term) = true ∧ decide (0 ≤ x.vote) = false) ∨ ((y.term == x.term) = true ∧ decide (0 ≤ x.vote) = true ∧ (y.vote != x.vote) = false) := by
                by_cases h1 : y.term = x.term
                · by_cases h2 : 0 ≤ x.vote
                  · have h3 : y.vote = x.vote := by
                      rcases HVO.out.2 h1 with h9 | h9
                      · exact h9
                      · omega
                    exact .inr (.inr ⟨by rw [beq_iff_eq]; exact h1, decide_eq_true h2, by simp [h3]⟩)
                  · exact .inr (.inl ⟨by rw [beq_iff_eq]; exact h1, decide_eq_false h2⟩)
                · exact .inl (by rw [beq_eq_false_iff_ne]; exact h1)
              rcases hways with u1 | ⟨u1, u2⟩ | ⟨u1, u2, u3⟩
              all_goals
                refine region_class F n0 HF0.out (by kernel_rfl) (by kernel_rfl) ?_
                repeat (go_big_quiet_step (first
                  | (go_at_call 15; exact HRI.out _)
                  | (go_at_call 35; exact HCM.out _)
                  | (go_at_call 33; exact HLA.out _)
                  | (go_at_call 36; exact HTE.out _)))
                refine wpQuiet_nil ?_
                intro _ hw'
                obtain ⟨nq, hw''⟩ := hw'
                subst hw''
                go_wp2_with fail
                go_meet
                exact ⟨rfl, HFB.out nq⟩
            case rest =>
              obtain ⟨rfl, hbc⟩ := hcut
              obtain ⟨nc, hnc⟩ : ∃ nc : Nat, y.commit = nc := ⟨y.commit.toNat, by have := HR5.out.c0; omega⟩
              have hcl : nc ≤ y.log.length := by have := HR5.out.c1; omega
              have HCL := Lib.hid hcl
              have HM7 := Lib.hid (HM6.out.on hbc)
              have HKS7 := Lib.hid (HKS.out.on hbc)
              have HRS7 := Lib.hid (show Ents _ _ As y.log from Sees.on HRS.out hbc)
              have HG7 := Lib.hid (HG6.out.below hbc HG6.out.lt)
              have HQ7 := Lib.hid (HQ6.out.below hbc HQ6.out.lt)
              have HCF := Lib.hid (show committedF y 1 = y.log.take nc by rw [committed_take y HR5.out.c0 HR5.out.c1, hnc]; rfl)
              have HCO := Lib.hid (fun W (hW : Below wc.heap.size wc W) => nCommitted_any B0 g y 1 S5 W (HM7.out.node.on hW) HR5.out.n0 (by have := HR5.out.len; omega) HR5.out.c0 (by have := HR5.out.c1; have := HR5.out.len; omega) (by omega))
              have hcm := fun W (hW : Below wc.heap.size wc W) => nCommit_any B0 g y S5 W (HM7.out.node.on hW) HR5.out.n0
              rw [hnc] at hcm
              have HCM := Lib.hid hcm
              have HNC := Lib.hid hnc
              obtain ⟨d0, d1, d2, hrd⟩ := HQC.out wc hbc
              clear hbc q0 q1 q2 hrq hcm hcl hnc HM6 HG6 HQ6 HRS HKS
              go_wp2_with fail
              go_big_quiet (fail)
              go_wp2_with fail
              refine (HCO.out _ (below_drewN (Below.refl _ _) _)).mono ?_
              rintro e w8 ⟨An, m, cn, rfl, hml, hfn, hb8⟩
              rw [HCF.out] at hml hfn
              obtain rfl : m = nc := by rw [← hml, List.length_take]; have := HCL.out; omega
              have hb8' : Below wc.heap.size wc w8 := Below.trans (below_drewN (Below.refl _ _) _) hb8
              have HM8 := Lib.hid (HM7.out.on hb8')
              have HNOW := Lib.hid (show Kept (fun i => S5 i ∨ i = K) w8 An (y.log.take m) from Kept.of_free hfn hml (fun k hk hs => absurd (hfn.foot_at k hk).1 (by show ¬ wc.heap.size ≤ k; rcases hs with hs | hs; exact Nat.not_le.2 (HM7.out.node.has_lt k hs); rw [hs]; exact Nat.not_le.2 HM7.out.kb.lt)))
              have HKS8 := Lib.hid (HKS7.out.on hb8')
              have HSE := Lib.hid (show Ents w8 w8.heap.size As y.log from Sees.on HRS7.out hb8')
              have HG8 := Lib.hid (HG7.out.below hb8' HG7.out.lt)
              have HQ8 := Lib.hid (HQ7.out.below hb8' HQ7.out.lt)
              have HCM8 := Lib.hid (HCM.out w8 hb8')
              have HCN := Lib.hid (show m ≤ cn from hfn.2.1)
              have hmm : ((m : Int) != (m : Int)) = false := by simp
              clear hb8 hb8' hfn hml d0 d1 d2 hrd HM7 HRS7 HKS7 HG7 HQ7 HCO HCM HCF
              go_wp2_with fail
              refine HCM8.out.mono ?_
              rintro e w9 ⟨rfl, rfl⟩
              clear HCM8
              go_wp2_with fail
              clear hmm
              go_loopw [224] (fun iv wr => ∃ j : Nat, j ≤ m ∧ iv = .int .i64 (j : Int) ∧ Below w9.heap.size w9 wr) (fun iv _ => m - (intOf iv).toNat)
              case atStart => exact ⟨0, Nat.zero_le _, rfl, Below.refl _ _⟩
              case round =>
                obtain ⟨j, hj, rfl, hbj⟩ := hrel
                by_cases hjl : j < m
                · as_aux_lemma =>
                  have hjl' : (j : Int) < (m : Int) := by omega
                  obtain ⟨z, hz⟩ : ∃ z, y.log[j]? = some z := ⟨_, List.getElem?_eq_getElem (by have := HCL.out; omega)⟩
                  obtain ⟨b1, o1, hA1, hlt1, f0, f1⟩ := Ents.at2 HNOW.out.ents (get_take hz hjl)
                  subst hA1
                  have f0 := (hbj.cell (p := ⟨b1, o1 + j * 2, none⟩) hlt1).trans f0
                  have f1 := (hbj.cell (p := ⟨b1, o1 + j * 2 + 1, none⟩) hlt1).trans f1
                  have hE2 := Blk.new wr 73 #[.int .i64 z.t, .string z.s]
                  have hbE := (Below.refl wr.heap.size wr).alloc (Nat.le_refl _) (.cells #[.int .i64 z.t, .string z.s] 73)
                  have HBE := Lib.hid (bthen hbj hbE)
                  have HE2 := Lib.hid hE2
                  have HJ := Lib.hid hjl
                  have HZ := Lib.hid hz
                  have hjb : (j : Int) + 1 ≤ 9223372036854775807 := by have := HCL.out; have := HR5.out.len; omega
                  clear hj hjl hz hlt1 hbE hE2 hbj
                  go_upto_region 37 with (fail)
                  generalize wr.alloc (.cells #[.int .i64 z.t, .string z.s] 73) = w10 at *
                  generalize wr.heap.size = J at *
                  clear f0 f1
                  have hrz : w10.heap[J]? = some (.cells #[.int .i64 z.t, .string z.s] 73 (0, 0)) := HE2.out
                  have j0 : w10.cell? ⟨J, 0, none⟩ = some (.int .i64 z.t) := by rw [HE2.out.cell]; rfl
                  have j1 : w10.cell? ⟨J, 1, none⟩ = some (.string z.s) := by rw [HE2.out.cell]; rfl
                  have s2 : w10.cell? ⟨Q, 2, none⟩ = some (.slice As y.log.length cs9) := by rw [(HQ8.out.below HBE.out HQ8.out.lt).cell]; rfl
                  obtain ⟨b2, o2, hA2, hlt2, g0, g1⟩ := Ents.at2 HSE.out HZ.out
                  subst hA2
                  have g0 := (HBE.out.cell (p := ⟨b2, o2 + j * 2, none⟩) hlt2).trans g0
                  have g1 := (HBE.out.cell (p := ⟨b2, o2 + j * 2 + 1, none⟩) hlt2).trans g1
                  have hjy : (j : Int) < (y.log.length : Int) := by have := HCL.out; have := HJ.out; omega
                  go_cut [249] (fun v wx => v = .bool false ∧ Below w10.heap.size w10 wx)
                  case first =>
                    by_cases hj1 : j < n1
                    · as_aux_lemma =>
                      obtain ⟨b3, o3, hA3, hlt3, h0, h1⟩ := Ents.at2 HM8.out.com.ents (get_keep HZ.out hj1 (by have h9 := HAD.out.keep; rw [HPU.out.2.2.2.2.2] at h9; exact h9))
                      subst hA3
                      have h0 := (HBE.out.cell (p := ⟨b3, o3 + j * 2, none⟩) hlt3).trans h0
                      have h1 := (HBE.out.cell (p := ⟨b3, o3 + j * 2 + 1, none⟩) hlt3).trans h1
                      have hj1' : (j : Int) < (n1 : Int) := by omega
                      clear hj1 hlt3
                      go_big_quiet (fail)
                      go_wp2_with fail
                      go_meet
                      exact ⟨rfl, below_drewN (Below.refl _ _) _⟩
                    · as_aux_lemma =>
                      have hj1' : decide ((j : Int) < (n1 : Int)) = false := decide_eq_false (by omega)
                      go_big_quiet (fail)
                      go_wp2_with fail
                      go_meet
                      exact ⟨rfl, below_drewN (Below.refl _ _) _⟩
                  case rest => as_aux_lemma =>
                    obtain ⟨rfl, hbc2⟩ := hcut
                    have HBR := Lib.hid (HBE.out.trans (hbc2.mono HBE.out.size))
                    clear hbc2 j0 j1 s2 g0 g1 hrz HBE HE2
                    go_wp2_with fail
                    go_roundw
                    case rel => exact ⟨j + 1, HJ.out, by go_num, HBR.out⟩
                    case measure => have := HJ.out; simp [intOf]; omega
                · as_aux_lemma =>
                  have hjl' : ¬ (j : Int) < (m : Int) := by omega
                  have HM9 := Lib.hid (show Mid B0 K g S5 y An (y.log.take m) kp A2 n2 c2 w wr from ⟨(HM8.out.on hbj).node, HNOW.out.on hbj, (HM8.out.on hbj).kb, (HM8.out.on hbj).kr, HM8.out.kl, HM8.out.kc, HM8.out.b0, (HM8.out.on hbj).below, (HM8.out.on hbj).size, HM8.out.kz⟩)
                  have HKS9 := Lib.hid (HKS8.out.on hbj)
                  have HG9 := Lib.hid (HG8.out.below hbj HG8.out.lt)
                  have HQ9 := Lib.hid (HQ8.out.below hbj HQ8.out.lt)
                  have HOU := Lib.hid ((nOut_any B0 g y S5 wr HM9.out.node HR5.out.n0).mono fun _ _ h9 => h9.two)
                  have HOD := Lib.hid (show ∀ u ∈ y.out, OutOk y u by
                    obtain ⟨o, h8, h9⟩ := HAD.out.out
                    rw [HPU.out.2.1, List.nil_append] at h8
                    rw [h8]
                    exact h9)
                  clear hj hjl hbj HM8 HSE HKS8 HG8 HQ8 HNOW
                  go_wp2_with fail
                  refine HOU.out.mono ?_
                  rintro e w11 ⟨Ao, q, co, ml, rfl, hq, hqm, hml, hse, hrows, hmv⟩
                  obtain ⟨S6, hm11, ht11, hs11⟩ := HM9.out.moves hmv
                  have HKS11 := Lib.hid (HKS9.out.turnK ht11 hs11 ⟨HM9.out.notOf HM9.out.kb (by decide) (by decide) (by decide) (by decide) (by decide), HM9.out.kb.lt⟩)
                  have HM11 := Lib.hid hm11
                  have HG11 := Lib.hid (HM9.out.keeps ht11 HG9.out (by decide) (by decide) (by decide) (by decide) (by decide))
                  have HQ11 := Lib.hid (HM9.out.keeps ht11 HQ9.out (by decide) (by decide) (by decide) (by decide) (by decide))
                  have HS11 := Lib.hid hse
                  have HML := Lib.hid (And.intro hq (And.intro hml hrows))
                  have HQM := Lib.hid hqm
                  clear hm11 ht11 hs11 hmv hse hq hml hrows hqm HOU HM9 HG9 HQ9 HKS9
                  go_wp2_with fail
                  go_loopw [255] (fun iv wr => ∃ j : Nat, j ≤ q ∧ iv = .int .i64 (j : Int) ∧ Below w11.heap.size w11 wr) (fun iv _ => q - (intOf iv).toNat)
                  case atStart => exact ⟨0, Nat.zero_le _, rfl, Below.refl _ _⟩
                  case round =>
                    obtain ⟨j, hj, rfl, hbj⟩ := hrel
                    by_cases hjl : j < q
                    · as_aux_lemma =>
                      have hjl' : (j : Int) < (q : Int) := by omega
                      have hj1 : (j : Int) + 1 ≤ 9223372036854775807 := by have : maxLen = 9223372036854775807 := rfl; have := HQM.out; omega
                      obtain ⟨u, hu⟩ : ∃ u, ml[j]? = some u := ⟨_, List.getElem?_eq_getElem (by have := HML.out.1; omega)⟩
                      have hum := (List.mem_iff_getElem?.2 ⟨j, hu⟩)
                      have HOK2 := Lib.hid (HOD.out u.m (by rw [← HML.out.2.1]; exact List.mem_map.2 ⟨u, hum, rfl⟩))
                      have HUN := Lib.hid (HML.out.2.2 u hum)
                      obtain ⟨b1, o1, hA1, hlt1, hcc⟩ := HS11.out.msg hu
                      subst hA1
                      have hbw := fun i v (hv : u.cells[i]? = some v) => (hbj.cell (p := ⟨b1, o1 + j * 9 + i, none⟩) hlt1).trans (hcc i v hv)
                      have f0 : wr.cell? ⟨b1, o1 + j * 9, none⟩ = some (.int .i64 u.m.k) := hbw 0 _ rfl
                      have f1 : wr.cell? ⟨b1, o1 + j * 9 + 1, none⟩ = some (.int .i64 u.m.f) := hbw 1 _ rfl
                      have f2 : wr.cell? ⟨b1, o1 + j * 9 + 2, none⟩ = some (.int .i64 u.m.t) := hbw 2 _ rfl
                      have f3 : wr.cell? ⟨b1, o1 + j * 9 + 3, none⟩ = some (.int .i64 u.m.term) := hbw 3 _ rfl
                      have f4 : wr.cell? ⟨b1, o1 + j * 9 + 4, none⟩ = some (.int .i64 u.m.i) := hbw 4 _ rfl
                      have f5 : wr.cell? ⟨b1, o1 + j * 9 + 5, none⟩ = some (.int .i64 u.m.lt) := hbw 5 _ rfl
                      have f6 : wr.cell? ⟨b1, o1 + j * 9 + 6, none⟩ = some (.int .i64 u.m.c) := hbw 6 _ rfl
                      have f7 : wr.cell? ⟨b1, o1 + j * 9 + 7, none⟩ = some (.bool u.m.yes) := hbw 7 _ rfl
                      have f8 : wr.cell? ⟨b1, o1 + j * 9 + 8, none⟩ = some (.slice u.A u.n u.c) := hbw 8 _ rfl
                      have HE2 := Lib.hid (Blk.new wr 61 #[.int .i64 u.m.k, .int .i64 u.m.f, .int .i64 u.m.t, .int .i64 u.m.term, .int .i64 u.m.i, .int .i64 u.m.lt, .int .i64 u.m.c, .bool u.m.yes, .slice u.A u.n u.c])
                      have HBE := Lib.hid (bthen hbj ((Below.refl wr.heap.size wr).alloc (Nat.le_refl _) (.cells #[.int .i64 u.m.k, .int .i64 u.m.f, .int .i64 u.m.t, .int .i64 u.m.term, .int .i64 u.m.i, .int .i64 u.m.lt, .int .i64 u.m.c, .bool u.m.yes, .slice u.A u.n u.c] 61)))
                      have HJ := Lib.hid hjl
                      clear hj hjl hu hum hcc hbw hlt1 hbj
                      go_upto_region 44 with (fail)
                      generalize wr.alloc (.cells #[.int .i64 u.m.k, .int .i64 u.m.f, .int .i64 u.m.t, .int .i64 u.m.term, .int .i64 u.m.i, .int .i64 u.m.lt, .int .i64 u.m.c, .bool u.m.yes, .slice u.A u.n u.c] 61) = w12 at *
                      generalize wr.heap.size = J at *
                      clear f0 f1 f2 f3 f4 f5 f6 f7 f8
                      obtain ⟨f0, f1, f2, f3, f8⟩ := msg_cells2 HE2.out
                      go_cut [297] (fun v wx => v = .bool false ∧ wx = w12)
                      case first =>
                        have o1 : (u.m.f != id) = false := by rw [HOK2.out.f, HKO.out.2.1]; simp
                        have o2 : (u.m.t == id) = false := by rw [beq_eq_false_iff_ne, ← HKO.out.2.1]; exact HOK2.out.ne
                        have o3 : decide (u.m.t < 0) = false := decide_eq_false (by have := HOK2.out.lo; omega)
                        have o4 : decide (n ≤ u.m.t) = false := decide_eq_false (by have h9 := HOK2.out.hi; rw [HKO.out.2.2.1] at h9; omega)
                        have o8 : decide ((8 : Int) < (u.n : Int)) = false := decide_eq_false (by have h9 := HOK2.out.es; have := HUN.out; omega)
                        have y0 : 0 ≤ y.term := HR5.out.t0
                        have y1 : y.term ≤ 1099511627776 := HR5.out.t1
                        rcases HOK2.out.term with h9 | h9
                        · as_aux_lemma =>
                          have o5 : decide (y.term + 1 < u.m.term) = false := decide_eq_false (by omega)
                          clear h9
                          go_wp2_with fail
                          go_meet
                          exact ⟨rfl, rfl⟩
                        · as_aux_lemma =>
                          have o6 : (u.m.k != 2) = false := by rw [h9]; rfl
                          clear h9
                          by_cases h5 : y.term + 1 < u.m.term
                          · as_aux_lemma =>
                            go_wp2_with fail
                            go_meet
                            exact ⟨rfl, rfl⟩
                          · as_aux_lemma =>
                            have o5 : decide (y.term + 1 < u.m.term) = false := decide_eq_false h5
                            clear h5
                            go_wp2_with fail
                            go_meet
                            exact ⟨rfl, rfl⟩
                      case rest => as_aux_lemma =>
                        obtain ⟨rfl, rfl⟩ := hcut
                        clear f0 f1 f2 f3 f8 HE2
                        go_wp2_with fail
                        go_roundw
                        case rel => exact ⟨j + 1, HJ.out, by go_num, HBE.out⟩
                        case measure => have := HJ.out; simp [intOf]; omega
                    · as_aux_lemma =>
                      have hjl' : ¬ (j : Int) < (q : Int) := by omega
                      have HM12 := Lib.hid (HM11.out.on hbj)
                      have HK12 := Lib.hid (HKS11.out.on hbj)
                      have HG12 := Lib.hid (HG11.out.below hbj HG11.out.lt)
                      have HQ12 := Lib.hid (HQ11.out.below hbj HQ11.out.lt)
                      have e0 : wr.cell? ⟨G, 0, none⟩ = some (.int .u8 kd) := (HG12.out.cell 0).trans HGC.out
                      have hk0 := HKD.out.1
                      have hk255 := HKD.out.2
                      clear hj hjl hbj HM11 HKS11 HG11 HQ11 HS11 HML HOD
                      by_cases h3 : kd % 4 = 3
                      · as_aux_lemma =>
                        have q3 : (kd % 4 != 3) = false := by rw [h3]; rfl
                        have HSV := Lib.hid ((nSave_any B0 g { y with out := [] } S6 wr HM12.out.node HR5.out.n0 (by have := HR5.out.len; simp only; omega) HR5.out.f0 (by have := HR5.out.f1; have := HR5.out.len; simp only; omega)).mono fun _ _ h9 => h9.two)
                        clear h3
                        go_wp2_with fail
                        refine HSV.out.mono ?_
                        rintro e w13 ⟨Av, nv, cv, T3, V3, so, fe, fi, rfl, hfl, hnv, hfv, hnd, htv⟩
                        have hkn : ¬ S6 K := HM12.out.notOf HM12.out.kb (by decide) (by decide) (by decide) (by decide) (by decide)
                        have hm13 := HM12.out.turns hnd htv.to0 (fun i hi => .inl hi)
                        have hk13 := HK12.out.turnK htv.to0 (fun i hi => .inl hi) ⟨hkn, HM12.out.kb.lt⟩
                        have hv13 : Kept (fun i => S6 i ∨ i = K) w13 Av (saveEs y) := Kept.of_free hfv hnv (fun k hk hs => absurd (hfv.foot_at k hk).1 (by rcases hs with hs | hs; exact Nat.not_le.2 (HM12.out.node.has_lt k hs); rw [hs]; exact Nat.not_le.2 HM12.out.kb.lt))
                        have hq13 := HM12.out.keeps htv.to0 HQ12.out (by decide) (by decide) (by decide) (by decide) (by decide)
                        have hV := Blk.new w13 41 #[.bool fe, .int .i64 T3, .int .i64 V3, .int .i64 fi, .slice Av nv cv]
                        have hbV := (Below.refl w13.heap.size w13).alloc (Nat.le_refl _) (.cells #[.bool fe, .int .i64 T3, .int .i64 V3, .int .i64 fi, .slice Av nv cv] 41)
                        have HM14 := Lib.hid (hm13.on hbV)
                        have HK14 := Lib.hid (hk13.on hbV)
                        have HKV := Lib.hid (hv13.on hbV)
                        have HQ14 := Lib.hid (hq13.below hbV hq13.lt)
                        have HV14 := Lib.hid hV
                        have HFL := Lib.hid hfl
                        have HNV := Lib.hid hnv
                        have HCV := Lib.hid (show nv ≤ cv from hfv.2.1)
                        clear hkn hm13 hk13 hv13 hq13 hV hbV hfl hnv hfv hnd htv HSV HM12 HK12 HG12 HQ12 e0 q3
                        go_upto_if 308 with (fail)
                        generalize w13.alloc (.cells #[.bool fe, .int .i64 T3, .int .i64 V3, .int .i64 fi, .slice Av nv cv] 41) = w14 at *
                        generalize w13.heap.size = VB at *
                        have HKE := Lib.hid (show saveOk y = false → kp = ⟨y.term, y.vote, y.log⟩ from fun h9 => by
                          unfold saveOk at h9
                          rw [Bool.or_eq_false_iff, decide_eq_false_iff_not] at h9
                          have h8 := HKO.out.1.hard h9.1
                          have h7 := HKO.out.1.all (by have h6 := h9.2; omega)
                          obtain ⟨a, b, c⟩ := kp
                          obtain ⟨rfl, rfl⟩ := h8
                          simp only at h7
                          rw [h7])
                        go_cut [] (fun wx => ∃ A3 n3 c3, Mid B0 K g S6 { savedF y with out := [] } An (y.log.take m) ⟨y.term, y.vote, y.log⟩ A3 n3 c3 w wx ∧ Kept (fun i => S6 i ∨ i = K) wx As y.log ∧ Blk wx Q 25 #[.int .i64 y.term, .int .i64 y.vote, .slice As y.log.length cs9])
                        case first => as_aux_lemma =>
                          rcases (show so = false ∨ so = true by cases so; exact .inl rfl; exact .inr rfl) with hs | hs
                          · as_aux_lemma =>
                            subst hs
                            have hkp := HKE.out HFL.out.2.2.2.2.symm
                            go_wp2_with fail
                            go_meet
                            exact ⟨A2, n2, c2, by rw [← hkp]; exact HM14.out, HK14.out, HQ14.out⟩
                          · as_aux_lemma =>
                            subst hs
                            obtain ⟨v0, v1, v2, v3, v4⟩ := save_cells HV14.out
                            obtain ⟨k0, k1, k2⟩ := state_cells HM14.out.kb
                            have fk0 := HM14.out.kb.frozen 0
                            have fk1 := HM14.out.kb.frozen 1
                            go_upto_if 310 with (fail)
                            clear v0
                            go_cut [] (fun wx => Mid B0 K g S6 { savedF y with out := [] } An (y.log.take m) ⟨y.term, y.vote, kp.es⟩ A2 n2 c2 w wx ∧ Kept (fun i => S6 i ∨ i = K) wx As y.log ∧ Blk wx Q 25 #[.int .i64 y.term, .int .i64 y.vote, .slice As y.log.length cs9] ∧ Blk wx VB 41 #[.bool fe, .int .i64 T3, .int .i64 V3, .int .i64 fi, .slice Av nv cv] ∧ Kept (fun i => S6 i ∨ i = K) wx Av (saveEs y))
                            case first => as_aux_lemma =>
                              have hfe := HFL.out.1
                              rcases (show fe = false ∨ fe = true by cases fe; exact .inl rfl; exact .inr rfl) with hs | hs
                              · as_aux_lemma =>
                                subst hs
                                obtain ⟨h8, h7⟩ := HKO.out.1.hard hfe.symm
                                go_wp2_with fail
                                go_meet
                                refine ⟨?_, HK14.out, HQ14.out, HV14.out, HKV.out⟩
                                have h9 := HM14.out
                                rw [show kp = ⟨kp.t, kp.v, kp.es⟩ from rfl, h8, h7] at h9
                                exact h9
                              · as_aux_lemma =>
                                subst hs
                                have hT : T3 = y.term := by rw [HFL.out.2.1]; unfold saveT; rw [← hfe]; rfl
                                have hV : V3 = y.vote := by rw [HFL.out.2.2.1]; unfold saveV; rw [← hfe]; rfl
                                have HMA := Lib.hid ((HM14.out.kset 0 (.int .i64 y.term) (kq := ⟨y.term, kp.v, kp.es⟩) rfl HM14.out.kr HM14.out.kl HM14.out.kc).kset 1 (.int .i64 y.vote) (kq := ⟨y.term, y.vote, kp.es⟩) rfl (HM14.out.kr.kset 0 _) HM14.out.kl HM14.out.kc)
                                have HQA := Lib.hid ((HQ14.out.far (p := ⟨K, 0, none⟩) (Nat.ne_of_gt HKQ.out) (.int .i64 y.term)).far (p := ⟨K, 1, none⟩) (Nat.ne_of_gt HKQ.out) (.int .i64 y.vote))
                                have HVA := Lib.hid ((HV14.out.far (p := ⟨K, 0, none⟩) (HV14.out.apart HM14.out.kb (by decide)) (.int .i64 y.term)).far (p := ⟨K, 1, none⟩) (HV14.out.apart HM14.out.kb (by decide)) (.int .i64 y.vote))
                                have HKA := Lib.hid ((HK14.out.kset 0 (.int .i64 y.term)).kset 1 (.int .i64 y.vote))
                                have HKB := Lib.hid ((HKV.out.kset 0 (.int .i64 y.term)).kset 1 (.int .i64 y.vote))
                                subst hT
                                subst hV
                                clear hfe
                                go_wp2_with fail
                                go_region
                                all_goals
                                  go_wp2_with fail
                                  go_meet
                                  -- MARKX
                                  first
                                    | exact ⟨HMA.out, HKA.out, HQA.out, HVA.out, HKB.out⟩
                                    | exact ⟨HMA.out.on (Below.refl _ _).drew, HKA.out.on (Below.refl _ _).drew, HQA.out.drew, HVA.out.drew, HKB.out.on (Below.refl _ _).drew⟩
                            case rest => as_aux_lemma =>
                              obtain ⟨hm15, hk15, hq15, hv15, hkv15⟩ := hcut
                              have HM15 := Lib.hid hm15
                              have HK15 := Lib.hid hk15
                              have HQ15 := Lib.hid hq15
                              have HV15 := Lib.hid hv15
                              have HKV15 := Lib.hid hkv15
                              clear hm15 hk15 hq15 hv15 hkv15 k0 k1 k2 fk0 fk1 v1 v2 v3 v4 HM14 HK14 HQ14 HV14 HKV HKE
                              obtain ⟨v0, v1, v2, v3, v4⟩ := save_cells HV15.out
                              obtain ⟨k0, k1, k2⟩ := state_cells HM15.out.kb
                              have fk2 := HM15.out.kb.frozen 2
                              rcases (show fi = 0 ∨ 0 < fi by have h9 := HR5.out.f0; have h8 := HFL.out.2.2.2.1; omega) with hfi | hfi
                              · as_aux_lemma =>
                                have hnv0 : nv = 0 := by
                                  rw [← HNV.out]
                                  unfold saveEs
                                  rw [if_neg (by rw [← HFL.out.2.2.2.1]; omega)]
                                  rfl
                                have hall := HKO.out.1.all (by rw [← HFL.out.2.2.2.1]; exact hfi)
                                have z1 : ¬ (0 : Int) < (nv : Int) := by omega
                                -- MARKV
                                have HH := Lib.hid hall
                                clear hfi hnv0 hall
                                go_wp2_with fail
                                go_meet
                                have h9 := HM15.out
                                rw [HH.out] at h9
                                exact ⟨A2, n2, c2, h9, HK15.out, HQ15.out⟩
                              · as_aux_lemma =>
                                obtain ⟨p, hp⟩ : ∃ p : Nat, fi = (p : Int) + 1 := ⟨(fi - 1).toNat, by omega⟩
                                subst hp
                                obtain ⟨hE, z1, z2, z3, ⟨hw1, hw2⟩, ⟨hpc, hpc2⟩, ⟨hm1, hm2⟩, hm3, hm4⟩ := part_facts (p := p) HKO.out.1 HFL.out.2.2.2.1.symm HR5.out.len HR5.out.f1 HM15.out.kl HM15.out.kc HNV.out
                                have HE := Lib.hid hE
                                have hn2b : (n2 : Int) ≤ 1024 := by have := HN2.out; omega
                                have hpn : (p : Int) ≤ (n2 : Int) := by have := hE.1; omega
                                clear hE hfi
                                have hsl := fun W => ents_upto A2 n2 c2 p (p : Int) rfl hpc W
                                obtain ⟨i0, hi0, hz0, hz1, hz2⟩ := info_parts ent_row
                                have HE0 := Lib.hid (show FreeN 2 (wc.alloc (.cells #[] 73)) wc.heap.size 73 (some ⟨wc.heap.size, 0, none⟩) 0 0 [] from FreeN.of_own (World.ownsRow_made wc _ 0 (Nat.le_refl _) (by decide) rfl))
                                have HBE := Lib.hid ((Below.refl wc.heap.size wc).alloc (Nat.le_refl _) (.cells #[] 73))
                                have hkr : Kept (fun i => S6 i ∨ i = K) wc A2 kp.es := HM15.out.kr
                                have HS1 := hkr.part_on HM15.out.kl HE.out.1
                                have HS2 := HKV15.out.all_on HNV.out
                                clear hkr
                                have HCE := Lib.hid (fun W (hW : Below wc.heap.size wc W) => And.intro (state_cells (HM15.out.kb.below hW HM15.out.kb.lt)).2.2 (And.intro (save_cells (HV15.out.below hW HV15.out.lt)).2.2.2.1 (save_cells (HV15.out.below hW HV15.out.lt)).2.2.2.2))
                                have HFR := Lib.hid (fun W (hW : Below wc.heap.size wc W) => (HM15.out.kb.below hW HM15.out.kb.lt).frozen 2)
                                have HVF := Lib.hid (fun W (hW : Below wc.heap.size wc W) u => (save_cells ((HV15.out.below hW HV15.out.lt).far (p := ⟨K, 2, none⟩) (HV15.out.apart HM15.out.kb (by decide)) u)).2.2.2)
                                have cK : ∀ o, (wc.alloc o).cell? ⟨K, 2, none⟩ = some (.slice A2 n2 c2) := fun o => (state_cells (HM15.out.kb.alloc o)).2.2
                                have cV3 : ∀ o, (wc.alloc o).cell? ⟨VB, 3, none⟩ = some (.int .i64 ((p : Int) + 1)) := fun o => (save_cells (HV15.out.alloc o)).2.2.2.1
                                have cV4 : ∀ o, (wc.alloc o).cell? ⟨VB, 4, none⟩ = some (.slice Av nv cv) := fun o => (save_cells (HV15.out.alloc o)).2.2.2.2
                                clear k0 k1 v0 v1 v2
                                go_wp2_with fail
                                -- MARKY
                                refine wp_region_held_drew (S := (fun W => W.cell? ⟨VB, 3, none⟩ = some (.int .i64 ((p : Int) + 1)) ∧ W.cell? ⟨VB, 4, none⟩ = some (.slice Av nv cv))) (by kernel_rfl) ⟨v3, v4⟩ (fun hHeld => ?_)
                                refine wpAnyH_take (i := 1) (oi := { dst := some 334, op := Op.fieldAddr 25 (Operand.tmp 13) 2, type := 0, pos := "law.go:112", after := #[], guard := none }) (v := .pointer (some ⟨K, 2, none⟩)) rfl (by kernel_rfl) (by kernel_rfl) (by kernel_rfl) (fun _ _ _ h => h) (Or.inl ⟨by rfl, ?_⟩) (by assumption) ?_
                                · intro w hSw
                                  obtain ⟨s3, s4⟩ := hSw
                                  go_simp
                                try simp only [Act.put, List.setIfInBounds_toArray, List.set_cons_zero, List.set_cons_succ]
                                refine wpAnyH_take (i := 3) (oi := { dst := some 336, op := Op.fieldAddr 41 (Operand.tmp 28) 3, type := 0, pos := "law.go:112", after := #[], guard := none }) (v := .pointer (some ⟨VB, 3, none⟩)) rfl (by kernel_rfl) (by kernel_rfl) (by kernel_rfl) (fun _ _ _ h => h) (Or.inl ⟨by rfl, ?_⟩) (by assumption) ?_
                                · intro w hSw
                                  obtain ⟨s3, s4⟩ := hSw
                                  go_simp
                                try simp only [Act.put, List.setIfInBounds_toArray, List.set_cons_zero, List.set_cons_succ]
                                refine wpAnyH_take (i := 4) (oi := { dst := some 337, op := Op.load 3 (Operand.tmp 336), type := 3, pos := "law.go:112", after := #[{ on := 3, ground := Ground.data }], guard := none }) (v := .int .i64 ((p : Int) + 1)) rfl (by kernel_rfl) (by kernel_rfl) (by kernel_rfl) (fun _ _ _ h => h) (Or.inl ⟨by rfl, ?_⟩) (by assumption) ?_
                                · intro w hSw
                                  obtain ⟨s3, s4⟩ := hSw
                                  go_simp
                                try simp only [Act.put, List.setIfInBounds_toArray, List.set_cons_zero, List.set_cons_succ]
                                refine wpAnyH_take (i := 5) (oi := { dst := some 338, op := Op.binOp BinOp.sub 3 (Operand.tmp 337) (Operand.const (Value.int IntKind.i64 1)) 3, type := 3, pos := "law.go:112", after := #[{ on := 4, ground := Ground.data }], guard := none }) (v := .int .i64 (p : Int)) rfl (by kernel_rfl) (by kernel_rfl) (by kernel_rfl) (fun _ _ _ h => h) (Or.inl ⟨by rfl, ?_⟩) (by assumption) ?_
                                · intro w hSw
                                  obtain ⟨s3, s4⟩ := hSw
                                  go_simp
                                try simp only [Act.put, List.setIfInBounds_toArray, List.set_cons_zero, List.set_cons_succ]
                                refine wpAnyH_take (i := 8) (oi := { dst := some 341, op := Op.fieldAddr 41 (Operand.tmp 28) 4, type := 0, pos := "law.go:112", after := #[], guard := none }) (v := .pointer (some ⟨VB, 4, none⟩)) rfl (by kernel_rfl) (by kernel_rfl) (by kernel_rfl) (fun _ _ _ h => h) (Or.inl ⟨by rfl, ?_⟩) (by assumption) ?_
                                · intro w hSw
                                  obtain ⟨s3, s4⟩ := hSw
                                  go_simp
                                try simp only [Act.put, List.setIfInBounds_toArray, List.set_cons_zero, List.set_cons_succ]
                                refine wpAnyH_take (i := 9) (oi := { dst := some 342, op := Op.load 23 (Operand.tmp 341), type := 23, pos := "law.go:112", after := #[{ on := 8, ground := Ground.data }], guard := none }) (v := .slice Av nv cv) rfl (by kernel_rfl) (by kernel_rfl) (by kernel_rfl) (fun _ _ _ h => h) (Or.inl ⟨by rfl, ?_⟩) (by assumption) ?_
                                · intro w hSw
                                  obtain ⟨s3, s4⟩ := hSw
                                  go_simp
                                try simp only [Act.put, List.setIfInBounds_toArray, List.set_cons_zero, List.set_cons_succ]
                                refine wpAnyH_ready (rs := [0, 2]) (by kernel_rfl) (by simp) ?_
                                refine AllReadyH.cons (o := { dst := some 333, op := Op.buildSlice 23 0 #[], type := 23, pos := "law.go:112", after := #[], guard := none }) rfl (fun KK hK => ?_) ?_
                                · go_simp
                                  refine hK.out _ _ (⟨cV3 _, cV4 _⟩) (fun hHeld => ?_)
                                  clear hK KK
                                  try simp only [Act.put, List.setIfInBounds_toArray, List.set_cons_zero, List.set_cons_succ]
                                  refine wpAnyH_ready (rs := [2]) (by kernel_rfl) (by simp) ?_
                                  refine AllReadyH.cons (o := { dst := some 335, op := Op.load 23 (Operand.tmp 334), type := 23, pos := "law.go:112", after := #[{ on := 1, ground := Ground.data }], guard := none }) rfl (fun KK hK => ?_) AllReadyH.nil
                                  go_simp
                                  refine hK.out _ _ (⟨cV3 _, cV4 _⟩) (fun hHeld => ?_)
                                  clear hK KK
                                  try simp only [Act.put, List.setIfInBounds_toArray, List.set_cons_zero, List.set_cons_succ]
                                  refine wpAnyH_take (i := 6) (oi := { dst := some 339, op := Op.slice 23 (Operand.tmp 335) none (some (Operand.tmp 338)) none, type := 23, pos := "law.go:112", after := #[{ on := 2, ground := Ground.data }, { on := 5, ground := Ground.data }], guard := none }) (v := .slice A2 p c2) rfl (by kernel_rfl) (by kernel_rfl) (by kernel_rfl) (fun _ _ _ h => h) (Or.inl ⟨by rfl, ?_⟩) (by assumption) ?_
                                  · intro w hSw
                                    obtain ⟨s3, s4⟩ := hSw
                                    go_simp
                                  try simp only [Act.put, List.setIfInBounds_toArray, List.set_cons_zero, List.set_cons_succ]
                                  refine wpAnyH_ready (rs := [7]) (by kernel_rfl) (by simp) ?_
                                  refine AllReadyH.cons (o := { dst := some 340, op := Op.call { callee := Callee.builtin Builtin.append, args := #[Operand.tmp 333, Operand.tmp 339], argTypes := #[23, 23] }, type := 23, pos := "law.go:112", after := #[{ on := 0, ground := Ground.data }, { on := 6, ground := Ground.data }], guard := none }) rfl (fun KK hK => ?_) AllReadyH.nil
                                  refine step_append_freeN (sz := 2) rfl (.tmp 333) (.tmp 339) 23 rfl wc.heap.size 73 i0 _ 24 sl_ent hi0 hz0 hz1 hz2 rfl (by decide) (some ⟨wc.heap.size, 0, none⟩) 0 0 [] (by simp [Act.eval]) (by exact HE0.out) _ A2 p c2 (ecs (kp.es.take p)) (by simp [Act.eval]) (by first | exact HS1.out _ HBE.out.drew | exact HS1.out _ HBE.out) (ecs_one _) hm1 hm2 (by simp) ?_
                                  intro A5 c5 w15 ha1
                                  have ha1' : AppendedN 2 (wc.alloc (.cells #[] 73)) wc.heap.size 73 (some ⟨wc.heap.size, 0, none⟩) 0 0 [] p (ecs (kp.es.take p)) A5 c5 w15 := ha1.same rfl rfl rfl rfl
                                  have HB15 := Lib.hid (show Below wc.heap.size wc w15 from ha1'.below HE0.out HBE.out HBE.out.size (Nat.le_refl _))
                                  obtain ⟨k2', v3', v4'⟩ := HCE.out _ HB15.out
                                  have hf4 := ha1'.1
                                  rw [Nat.zero_add, List.nil_append] at hf4
                                  have HF4 := Lib.hid hf4
                                  clear hf4
                                  rw [Nat.zero_add]
                                  have HS4 := Lib.hid (HS2.out w15 HB15.out)
                                  refine hK.out _ _ (⟨v3', v4'⟩) (fun hHeld => ?_)
                                  clear hK KK
                                  try simp only [Act.put, List.setIfInBounds_toArray, List.set_cons_zero, List.set_cons_succ]
                                  refine wpAnyH_ready (rs := [10]) (by kernel_rfl) (by simp) ?_
                                  refine AllReadyH.cons (o := { dst := some 343, op := Op.call { callee := Callee.builtin Builtin.append, args := #[Operand.tmp 340, Operand.tmp 342], argTypes := #[23, 23] }, type := 23, pos := "law.go:112", after := #[{ on := 7, ground := Ground.data }, { on := 9, ground := Ground.data }, { on := 7, ground := Ground.chain }], guard := none }) rfl (fun KK hK => ?_) AllReadyH.nil
                                  refine step_append_freeN (sz := 2) rfl (.tmp 340) (.tmp 342) 23 rfl wc.heap.size 73 i0 _ 24 sl_ent hi0 hz0 hz1 hz2 rfl (by decide) A5 p c5 (ecs (kp.es.take p)) (by simp [Act.eval]) (by exact HF4.out) _ Av nv cv (ecs (saveEs y)) (by simp [Act.eval]) (by exact HS4.out) (ecs_one _) hm3 hm4 (by exact HB15.out.size) ?_
                                  intro AQ cq wq ha2
                                  have ha2' : AppendedN 2 w15 wc.heap.size 73 A5 p c5 (ecs (kp.es.take p)) nv (ecs (saveEs y)) AQ cq wq := ha2.same rfl rfl rfl rfl
                                  have HB16 := Lib.hid (show Below wc.heap.size wc wq from ha2'.below HF4.out HB15.out HB15.out.size (Nat.le_refl _))
                                  obtain ⟨k2'', v3'', v4''⟩ := HCE.out _ HB16.out
                                  have fk2' := HFR.out _ HB16.out
                                  have cS3 : ∀ u, (wq.setCell ⟨K, 2, none⟩ u).cell? ⟨VB, 3, none⟩ = some (.int .i64 ((p : Int) + 1)) := fun u => (HVF.out _ HB16.out u).1
                                  have cS4 : ∀ u, (wq.setCell ⟨K, 2, none⟩ u).cell? ⟨VB, 4, none⟩ = some (.slice Av nv cv) := fun u => (HVF.out _ HB16.out u).2
                                  have HF6 := Lib.hid ha2'.1
                                  refine hK.out _ _ (⟨v3'', v4''⟩) (fun hHeld => ?_)
                                  clear hK KK
                                  try simp only [Act.put, List.setIfInBounds_toArray, List.set_cons_zero, List.set_cons_succ]
                                  refine wpAnyH_take (i := 11) (oi := { dst := some 344, op := Op.fieldAddr 25 (Operand.tmp 13) 2, type := 0, pos := "law.go:112", after := #[{ on := 0, ground := Ground.phase }, { on := 1, ground := Ground.phase }, { on := 2, ground := Ground.phase }, { on := 3, ground := Ground.phase }, { on := 4, ground := Ground.phase }, { on := 5, ground := Ground.phase }, { on := 6, ground := Ground.phase }, { on := 7, ground := Ground.phase }, { on := 8, ground := Ground.phase }, { on := 9, ground := Ground.phase }, { on := 10, ground := Ground.phase }], guard := none }) (v := .pointer (some ⟨K, 2, none⟩)) rfl (by kernel_rfl) (by kernel_rfl) (by kernel_rfl) (fun _ _ _ h => h) (Or.inl ⟨by rfl, ?_⟩) (by assumption) ?_
                                  · intro w hSw
                                    obtain ⟨s3, s4⟩ := hSw
                                    go_simp
                                  try simp only [Act.put, List.setIfInBounds_toArray, List.set_cons_zero, List.set_cons_succ]
                                  refine wpAnyH_ready (rs := [12]) (by kernel_rfl) (by simp) ?_
                                  refine AllReadyH.cons (o := { dst := none, op := Op.store 23 (Operand.tmp 344) (Operand.tmp 343), type := 0, pos := "law.go:112", after := #[{ on := 11, ground := Ground.data }, { on := 10, ground := Ground.data }, { on := 10, ground := Ground.chain }, { on := 0, ground := Ground.phase }, { on := 1, ground := Ground.phase }, { on := 2, ground := Ground.phase }, { on := 3, ground := Ground.phase }, { on := 4, ground := Ground.phase }, { on := 5, ground := Ground.phase }, { on := 6, ground := Ground.phase }, { on := 7, ground := Ground.phase }, { on := 8, ground := Ground.phase }, { on := 9, ground := Ground.phase }, { on := 10, ground := Ground.phase }], guard := none }) rfl (fun KK hK => ?_) AllReadyH.nil
                                  go_simp
                                  refine hK.out _ _ (⟨cS3 _, cS4 _⟩) (fun hHeld => ?_)
                                  clear hK KK
                                  try simp only [Act.put, List.setIfInBounds_toArray, List.set_cons_zero, List.set_cons_succ]
                                  refine wpAnyH_done (by kernel_rfl) ?_ _
                                  go_wp2_with fail
                                  go_meet
                                  have hf6 := HF6.out
                                  rw [← ecs_append, HE.out.2.1] at hf6
                                  have hlen : y.log.length = p + nv := HE.out.2.2
                                  have hkq : Kept (fun i => S6 i ∨ i = K) wq AQ y.log := Kept.of_free hf6 hlen (fun k hk hs => absurd (hf6.foot_at k hk).1 (by rcases hs with hs | hs; exact Nat.not_le.2 (HM15.out.node.has_lt k hs); rw [hs]; exact Nat.not_le.2 HM15.out.kb.lt))
                                  have hmq := (HM15.out.on HB16.out).kset 2 (.slice AQ (p + nv) cq) (kq := ⟨y.term, y.vote, y.log⟩) rfl hkq hlen hf6.2.1
                                  exact ⟨AQ, p + nv, cq, hmq, (HK15.out.on HB16.out).kset 2 _, (HQ15.out.below HB16.out HQ15.out.lt).far (p := ⟨K, 2, none⟩) (Nat.ne_of_gt HKQ.out) _⟩
                                · refine AllReadyH.cons (o := { dst := some 335, op := Op.load 23 (Operand.tmp 334), type := 23, pos := "law.go:112", after := #[{ on := 1, ground := Ground.data }], guard := none }) rfl (fun KK hK => ?_) AllReadyH.nil
                                  go_simp
                                  refine hK.out _ _ (⟨v3, v4⟩) (fun hHeld => ?_)
                                  clear hK KK
                                  try simp only [Act.put, List.setIfInBounds_toArray, List.set_cons_zero, List.set_cons_succ]
                                  refine wpAnyH_take (i := 6) (oi := { dst := some 339, op := Op.slice 23 (Operand.tmp 335) none (some (Operand.tmp 338)) none, type := 23, pos := "law.go:112", after := #[{ on := 2, ground := Ground.data }, { on := 5, ground := Ground.data }], guard := none }) (v := .slice A2 p c2) rfl (by kernel_rfl) (by kernel_rfl) (by kernel_rfl) (fun _ _ _ h => h) (Or.inl ⟨by rfl, ?_⟩) (by assumption) ?_
                                  · intro w hSw
                                    obtain ⟨s3, s4⟩ := hSw
                                    go_simp
                                  try simp only [Act.put, List.setIfInBounds_toArray, List.set_cons_zero, List.set_cons_succ]
                                  refine wpAnyH_ready (rs := [0]) (by kernel_rfl) (by simp) ?_
                                  refine AllReadyH.cons (o := { dst := some 333, op := Op.buildSlice 23 0 #[], type := 23, pos := "law.go:112", after := #[], guard := none }) rfl (fun KK hK => ?_) AllReadyH.nil
                                  go_simp
                                  refine hK.out _ _ (⟨cV3 _, cV4 _⟩) (fun hHeld => ?_)
                                  clear hK KK
                                  try simp only [Act.put, List.setIfInBounds_toArray, List.set_cons_zero, List.set_cons_succ]
                                  refine wpAnyH_ready (rs := [7]) (by kernel_rfl) (by simp) ?_
                                  refine AllReadyH.cons (o := { dst := some 340, op := Op.call { callee := Callee.builtin Builtin.append, args := #[Operand.tmp 333, Operand.tmp 339], argTypes := #[23, 23] }, type := 23, pos := "law.go:112", after := #[{ on := 0, ground := Ground.data }, { on := 6, ground := Ground.data }], guard := none }) rfl (fun KK hK => ?_) AllReadyH.nil
                                  refine step_append_freeN (sz := 2) rfl (.tmp 333) (.tmp 339) 23 rfl wc.heap.size 73 i0 _ 24 sl_ent hi0 hz0 hz1 hz2 rfl (by decide) (some ⟨wc.heap.size, 0, none⟩) 0 0 [] (by simp [Act.eval]) (by exact HE0.out) _ A2 p c2 (ecs (kp.es.take p)) (by simp [Act.eval]) (by first | exact HS1.out _ HBE.out.drew | exact HS1.out _ HBE.out) (ecs_one _) hm1 hm2 (by simp) ?_
                                  intro A5 c5 w15 ha1
                                  have ha1' : AppendedN 2 (wc.alloc (.cells #[] 73)) wc.heap.size 73 (some ⟨wc.heap.size, 0, none⟩) 0 0 [] p (ecs (kp.es.take p)) A5 c5 w15 := ha1.same rfl rfl rfl rfl
                                  have HB15 := Lib.hid (show Below wc.heap.size wc w15 from ha1'.below HE0.out HBE.out HBE.out.size (Nat.le_refl _))
                                  obtain ⟨k2', v3', v4'⟩ := HCE.out _ HB15.out
                                  have hf4 := ha1'.1
                                  rw [Nat.zero_add, List.nil_append] at hf4
                                  have HF4 := Lib.hid hf4
                                  clear hf4
                                  rw [Nat.zero_add]
                                  have HS4 := Lib.hid (HS2.out w15 HB15.out)
                                  refine hK.out _ _ (⟨v3', v4'⟩) (fun hHeld => ?_)
                                  clear hK KK
                                  try simp only [Act.put, List.setIfInBounds_toArray, List.set_cons_zero, List.set_cons_succ]
                                  refine wpAnyH_ready (rs := [10]) (by kernel_rfl) (by simp) ?_
                                  refine AllReadyH.cons (o := { dst := some 343, op := Op.call { callee := Callee.builtin Builtin.append, args := #[Operand.tmp 340, Operand.tmp 342], argTypes := #[23, 23] }, type := 23, pos := "law.go:112", after := #[{ on := 7, ground := Ground.data }, { on := 9, ground := Ground.data }, { on := 7, ground := Ground.chain }], guard := none }) rfl (fun KK hK => ?_) AllReadyH.nil
                                  refine step_append_freeN (sz := 2) rfl (.tmp 340) (.tmp 342) 23 rfl wc.heap.size 73 i0 _ 24 sl_ent hi0 hz0 hz1 hz2 rfl (by decide) A5 p c5 (ecs (kp.es.take p)) (by simp [Act.eval]) (by exact HF4.out) _ Av nv cv (ecs (saveEs y)) (by simp [Act.eval]) (by exact HS4.out) (ecs_one _) hm3 hm4 (by exact HB15.out.size) ?_
                                  intro AQ cq wq ha2
                                  have ha2' : AppendedN 2 w15 wc.heap.size 73 A5 p c5 (ecs (kp.es.take p)) nv (ecs (saveEs y)) AQ cq wq := ha2.same rfl rfl rfl rfl
                                  have HB16 := Lib.hid (show Below wc.heap.size wc wq from ha2'.below HF4.out HB15.out HB15.out.size (Nat.le_refl _))
                                  obtain ⟨k2'', v3'', v4''⟩ := HCE.out _ HB16.out
                                  have fk2' := HFR.out _ HB16.out
                                  have cS3 : ∀ u, (wq.setCell ⟨K, 2, none⟩ u).cell? ⟨VB, 3, none⟩ = some (.int .i64 ((p : Int) + 1)) := fun u => (HVF.out _ HB16.out u).1
                                  have cS4 : ∀ u, (wq.setCell ⟨K, 2, none⟩ u).cell? ⟨VB, 4, none⟩ = some (.slice Av nv cv) := fun u => (HVF.out _ HB16.out u).2
                                  have HF6 := Lib.hid ha2'.1
                                  refine hK.out _ _ (⟨v3'', v4''⟩) (fun hHeld => ?_)
                                  clear hK KK
                                  try simp only [Act.put, List.setIfInBounds_toArray, List.set_cons_zero, List.set_cons_succ]
                                  refine wpAnyH_take (i := 11) (oi := { dst := some 344, op := Op.fieldAddr 25 (Operand.tmp 13) 2, type := 0, pos := "law.go:112", after := #[{ on := 0, ground := Ground.phase }, { on := 1, ground := Ground.phase }, { on := 2, ground := Ground.phase }, { on := 3, ground := Ground.phase }, { on := 4, ground := Ground.phase }, { on := 5, ground := Ground.phase }, { on := 6, ground := Ground.phase }, { on := 7, ground := Ground.phase }, { on := 8, ground := Ground.phase }, { on := 9, ground := Ground.phase }, { on := 10, ground := Ground.phase }], guard := none }) (v := .pointer (some ⟨K, 2, none⟩)) rfl (by kernel_rfl) (by kernel_rfl) (by kernel_rfl) (fun _ _ _ h => h) (Or.inl ⟨by rfl, ?_⟩) (by assumption) ?_
                                  · intro w hSw
                                    obtain ⟨s3, s4⟩ := hSw
                                    go_simp
                                  try simp only [Act.put, List.setIfInBounds_toArray, List.set_cons_zero, List.set_cons_succ]
                                  refine wpAnyH_ready (rs := [12]) (by kernel_rfl) (by simp) ?_
                                  refine AllReadyH.cons (o := { dst := none, op := Op.store 23 (Operand.tmp 344) (Operand.tmp 343), type := 0, pos := "law.go:112", after := #[{ on := 11, ground := Ground.data }, { on := 10, ground := Ground.data }, { on := 10, ground := Ground.chain }, { on := 0, ground := Ground.phase }, { on := 1, ground := Ground.phase }, { on := 2, ground := Ground.phase }, { on := 3, ground := Ground.phase }, { on := 4, ground := Ground.phase }, { on := 5, ground := Ground.phase }, { on := 6, ground := Ground.phase }, { on := 7, ground := Ground.phase }, { on := 8, ground := Ground.phase }, { on := 9, ground := Ground.phase }, { on := 10, ground := Ground.phase }], guard := none }) rfl (fun KK hK => ?_) AllReadyH.nil
                                  go_simp
                                  refine hK.out _ _ (⟨cS3 _, cS4 _⟩) (fun hHeld => ?_)
                                  clear hK KK
                                  try simp only [Act.put, List.setIfInBounds_toArray, List.set_cons_zero, List.set_cons_succ]
                                  refine wpAnyH_done (by kernel_rfl) ?_ _
                                  go_wp2_with fail
                                  go_meet
                                  have hf6 := HF6.out
                                  rw [← ecs_append, HE.out.2.1] at hf6
                                  have hlen : y.log.length = p + nv := HE.out.2.2
                                  have hkq : Kept (fun i => S6 i ∨ i = K) wq AQ y.log := Kept.of_free hf6 hlen (fun k hk hs => absurd (hf6.foot_at k hk).1 (by rcases hs with hs | hs; exact Nat.not_le.2 (HM15.out.node.has_lt k hs); rw [hs]; exact Nat.not_le.2 HM15.out.kb.lt))
                                  have hmq := (HM15.out.on HB16.out).kset 2 (.slice AQ (p + nv) cq) (kq := ⟨y.term, y.vote, y.log⟩) rfl hkq hlen hf6.2.1
                                  exact ⟨AQ, p + nv, cq, hmq, (HK15.out.on HB16.out).kset 2 _, (HQ15.out.below HB16.out HQ15.out.lt).far (p := ⟨K, 2, none⟩) (Nat.ne_of_gt HKQ.out) _⟩
                        case rest => as_aux_lemma =>
                          obtain ⟨A3, n3, c3, hm15, hk15, hq15⟩ := hcut
                          have HM15 := Lib.hid hm15
                          have HK15 := Lib.hid hk15
                          have HQ15 := Lib.hid hq15
                          have hl3 := hm15.kl
                          simp only at hl3
                          have hle := HR5.out.len
                          have HSA := Lib.hid (same6_any ⟨y.term, y.vote, y.log⟩ ⟨y.term, y.vote, y.log⟩ A3 As n3 y.log.length c3 cs9 wc HM15.out.kr.ents hl3 HK15.out.ents rfl (by omega))
                          obtain ⟨k0, k1, k2⟩ := state_cells HM15.out.kb
                          obtain ⟨q0, q1, q2⟩ := state_cells HQ15.out
                          have hrk : wc.heap[K]? = some (.cells #[.int .i64 y.term, .int .i64 y.vote, .slice A3 n3 c3] 25 (0, 0)) := HM15.out.kb
                          have hrq : wc.heap[Q]? = some (.cells #[.int .i64 y.term, .int .i64 y.vote, .slice As y.log.length cs9] 25 (0, 0)) := HQ15.out
                          have HL3 := Lib.hid (show n3 ≤ 1024 by omega)
                          clear hm15 hk15 hq15 hl3 hle HM14 HK14 HQ14 HV14 HKV HKE
                          go_wp2_with fail
                          refine HSA.out.mono ?_
                          rintro e w16 ⟨r, rfl, hr, hb16⟩
                          have hr1 := hr trivial
                          subst hr1
                          have HM16 := Lib.hid (HM15.out.on hb16)
                          have hk1 : (k : Int) + 1 ≤ 9223372036854775807 := by have := HK.out; have := HZ8.out; omega
                          clear hb16 hr k0 k1 k2 q0 q1 q2 hrk hrq HM15 HK15 HQ15 HSA
                          -- MARKZ
                          go_wp2_with fail
                          go_roundw
                          case rel =>
                            refine ⟨k + 1, { savedF y with out := [] }, S6, An, m, cn, ⟨y.term, y.vote, y.log⟩, A3, n3, c3, HK.out, by go_num, HNC.out, rfl, rfl, rfl, HM16.out, ?_, rfl, KeptOf.of_out KeptOf.saved, HKO.out.2.1, HKO.out.2.2.1, HL3.out⟩
                            have h9 := HR5.out.saved.quiet
                            exact h9.mono (by push_cast; omega)
                          case measure => have := HK.out; simp [intOf]; omega
                      · as_aux_lemma =>
                        have q3 : (kd % 4 != 3) = true := by rw [bne_iff_ne]; exact h3
                        clear h3
                        have hk1 : (k : Int) + 1 ≤ 9223372036854775807 := by have := HK.out; have := HZ8.out; omega
                        go_wp2_with fail
                        go_roundw
                        case rel =>
                          refine ⟨k + 1, { y with out := [] }, S6, An, m, cn, kp, A2, n2, c2, HK.out, by go_num, HNC.out, rfl, rfl, rfl, HM12.out, ?_, rfl, HKO.out.1.of_out, HKO.out.2.1, HKO.out.2.2.1, HN2.out⟩
                          have h9 := HR5.out.quiet
                          exact h9.mono (by push_cast; omega)
                        case measure => have := HK.out; simp [intOf]; omega
    · as_aux_lemma =>
      have hlt' : ¬ (k : Int) < (n' : Int) := by omega
      have HB := Lib.hid hmid.below
      clear hk hcm hmid hri hout hko hid hxn hlt
      go_wp2_with fail
      go_ret
      exact ⟨rfl, HB.out⟩
end Go.Proofs.Ytlggkeoihpcdiaa.raftRaw
