/- LogPlays: whatever is added and put, each answer, and all entries, terms and ends, are what a plain row tells. For every input, without a condition. -/
import Derived.Test.YtcmeindekbjefaaRows
import Derived.Test.YtcmeindekbjefaaLpM
import Derived.Test.YtcmeindekbjefaaOpen7
import Derived.ProofKit
import Derived.Deep.RegionWith
import Derived.Deep.DeepCutAuto
import Derived.Deep.CutBlock
import Derived.OpenShut
namespace Go.Proofs.Ytcmeindekbjefaa.logPlays
open Go.ChangeShapes Go.WideShapes Go.ChangeAt Go.RowKit Go.Deep
set_option linter.unusedVariables false

theorem own : ownKnob Try.prog.godebug = none := by kernel_rfl
theorem laidOut : laidOutB Try.prog = true := by kernel_rfl

/-- an act, read out of memory -/
structure ActL where
  kind : Int
  i : Int
  t : Int
  A : Option Addr
  n : Nat
  c : Nat
  l : List Ent
/-- a row of acts: each has four cells -/
def ActsL (w : World) (B : Nat) (A : Option Addr) (n : Nat) (f : Nat → ActL) : Prop :=
  (∀ j, j < n → 0 ≤ (f j).kind ∧ (f j).kind ≤ 255 ∧ Ents w B (f j).A (f j).l ∧ (f j).l.length = (f j).n ∧ (f j).n ≤ (f j).c) ∧
  (0 < n → ∃ b off, A = some ⟨b, off, none⟩ ∧ b < B ∧ ∀ j, j < n → w.cell? ⟨b, off + j * 4, none⟩ = some (.int .u8 (f j).kind) ∧ w.cell? ⟨b, off + j * 4 + 1, none⟩ = some (.int .i64 (f j).i) ∧
    w.cell? ⟨b, off + j * 4 + 2, none⟩ = some (.int .i64 (f j).t) ∧ w.cell? ⟨b, off + j * 4 + 3, none⟩ = some (.slice (f j).A (f j).n (f j).c))

set_option maxRecDepth 100000 in
set_option maxHeartbeats 6400000 in
theorem walk (A' : Option Addr) (n' c' : Nat) (f : Nat → ActL) (idx mst trm : Int) (w : World) (ha : ActsL w w.heap.size A' n' f) (hidx : idx < 9223372036854775808) :
    Calls Try.prog 6 #[.slice A' n' c', .int .i64 idx, .int .i64 mst, .int .i64 trm] w fun e w' => e = .returned (.bool true) ∧ Below w.heap.size w w' := by
  by_cases hz1 : 50 < n'
  · have hz2 : (50 : Int) < (n' : Int) := by omega
    go_enter Try.func6, Try.ntmps6
    go_wp2_with fail
    refine (fixed7_any _).mono ?_
    rintro e w1 ⟨rfl, hb1⟩
    go_wp2_with fail
    go_ret
    exact ⟨rfl, hb1⟩
  · have hz2 : ¬ (50 : Int) < (n' : Int) := by omega
    have hn50 : n' ≤ 50 := by omega
    have HA := Lib.hid ha
    have HIDX := Lib.hid hidx
    clear ha hz1 hidx
    go_enter Try.func6, Try.ntmps6
    go_wp2_with fail
    refine (fixed7_any _).mono ?_
    rintro e w1 ⟨rfl, hb1⟩
    go_wp2_with fail
    refine (lNew_any none 0 0 [] w1 (Ents.nil _ _ _) rfl (by omega)).mono ?_
    rintro e w2 ⟨g, f0, rfl, hl2, hb2⟩
    have hl2 := hl2.mono hb1.size
    have hb2 := bthen hb1 hb2
    clear hb1
    go_wp2_with fail
    go_loopw [10, 43] (fun v iv wr => ∃ (k n : Nat) (es : List Ent) (fb : Option Nat) (A : Option Addr) (c : Nat), k ≤ n' ∧ iv = .int .i64 (k : Int) ∧ v = .slice A n c ∧ Two w.heap.size g fb A n c es es wr ∧ n ≤ 20 * k ∧ Below w.heap.size w wr) (fun _ iv _ => n' - (intOf iv).toNat)
    case atStart => exact ⟨0, 0, [], f0, none, 0, Nat.zero_le _, rfl, rfl, ⟨hl2, rfl, FreeN.nil _ _ _ _, fun q hq => by simp [foot] at hq⟩, Nat.zero_le _, hb2⟩
    case round =>
      obtain ⟨k, n, es, fb, A, c, hk, rfl, rfl, htwo, hnk, hbel⟩ := hrel
      clear hl2 hb2
      by_cases hlt : k < n'
      · obtain ⟨hk0, hk255, hsB, hlB, hcB⟩ := HA.out.1 k hlt
        obtain ⟨b, off, rfl, hbw, hcells⟩ := HA.out.2 (by omega)
        obtain ⟨c0', c1', c2', c3'⟩ := hcells k hlt
        have c0 := (hbel.cell (p := ⟨b, off + k * 4, none⟩) hbw).trans c0'
        have c1 := (hbel.cell (p := ⟨b, off + k * 4 + 1, none⟩) hbw).trans c1'
        have c2 := (hbel.cell (p := ⟨b, off + k * 4 + 2, none⟩) hbw).trans c2'
        have c3 := (hbel.cell (p := ⟨b, off + k * 4 + 3, none⟩) hbw).trans c3'
        have hlt' : (k : Int) < (n' : Int) := by omega
        clear hcells c0' c1' c2' c3'
        generalize (f k).kind = kd at *
        generalize (f k).A = AB at *
        generalize (f k).n = nB at *
        generalize (f k).c = cB at *
        generalize (f k).l = lB at *
        generalize (f k).i = ai at *
        generalize (f k).t = at_ at *
        have HSB := Lib.hid hsB
        have HLB := Lib.hid hlB
        have HCB := Lib.hid hcB
        have HK := Lib.hid (show k < n' ∧ n' ≤ 50 ∧ n ≤ 20 * k from ⟨hlt, hn50, hnk⟩)
        have HTW := Lib.hid htwo
        have HBEL := Lib.hid hbel
        have HKD := Lib.hid (show 0 ≤ kd ∧ kd ≤ 255 from ⟨hk0, hk255⟩)
        clear hsB hlB hcB hlt hnk hk htwo hbel hk0 hk255 hbw hz2
        go_upto_region 10 with (fail)
        have hA := Blk.new wr 60 #[.int .u8 kd, .int .i64 ai, .int .i64 at_, .slice AB nB cB]
        have hbA := (Below.refl wr.heap.size wr).alloc (Nat.le_refl _) (.cells #[.int .u8 kd, .int .i64 ai, .int .i64 at_, .slice AB nB cB] 60)
        have HBA := Lib.hid (bthen HBEL.out hbA)
        have HTA := Lib.hid (HTW.out.on hbA)
        have HGZ := Lib.hid (show wr.heap.size ≠ g by have := HTW.out.log.lt; omega)
        have hGl : wr.heap.size < (wr.alloc (.cells #[.int .u8 kd, .int .i64 ai, .int .i64 at_, .slice AB nB cB] 60)).heap.size := by simp
        have HGL := Lib.hid hGl
        have HGB := Lib.hid (show w.heap.size ≤ wr.heap.size from HBEL.out.size)
        clear c0 c1 c2 c3 hbA HBEL HTW hGl
        generalize wr.alloc (.cells #[.int .u8 kd, .int .i64 ai, .int .i64 at_, .slice AB nB cB] 60) = W1 at *
        generalize wr.heap.size = G at *
        have HC := Lib.hid (fun (W : World) (hW : Below W1.heap.size W1 W) =>
          have hk := hA.below hW hA.lt
          (⟨by rw [hk.cell]; rfl, by rw [hk.cell]; rfl, by rw [hk.cell]; rfl, by rw [hk.cell]; rfl⟩ : W.cell? ⟨G, 0, none⟩ = some (.int .u8 kd) ∧ W.cell? ⟨G, 1, none⟩ = some (.int .i64 ai) ∧ W.cell? ⟨G, 2, none⟩ = some (.int .i64 at_) ∧ W.cell? ⟨G, 3, none⟩ = some (.slice AB nB cB)))
        clear hA
        obtain ⟨c0, c1, c2, c3⟩ := HC.out W1 (Below.refl _ _)
        by_cases hB20 : 20 < nB
        · have hB2 : (20 : Int) < (nB : Int) := by omega
          go_wp2_with fail
          go_ret
          exact ⟨rfl, HBA.out⟩
        · have hB2 : ¬ (20 : Int) < (nB : Int) := by omega
          have HB20 := Lib.hid (show nB ≤ 20 by omega)
          clear hB20
          go_wp2_with fail
          go_loopw [54] (fun jv wr => ∃ j : Nat, j ≤ nB ∧ jv = .int .i64 (j : Int) ∧ Below W1.heap.size W1 wr) (fun jv _ => nB - (intOf jv).toNat)
          case atStart => exact ⟨0, Nat.zero_le _, rfl, Below.refl _ _⟩
          case round =>
            obtain ⟨j, hj, rfl, hbj⟩ := hrel
            clear c0 c1 c2 c3 hB2
            by_cases hjl : j < nB
            · have hjb : j < lB.length := by have := HLB.out; omega
              obtain ⟨b2, off2, rfl, hbl2, d0, d1⟩ := Ents.at_ HSB.out hjb
              have HW1 := Lib.hid (HBA.out.trans (hbj.mono HBA.out.size))
              have d0' := (HW1.out.cell (p := ⟨b2, off2 + j * 2, none⟩) hbl2).trans d0
              have d1' := (HW1.out.cell (p := ⟨b2, off2 + j * 2 + 1, none⟩) hbl2).trans d1
              have hjl' : (j : Int) < (nB : Int) := by omega
              clear d0 d1 hbl2
              generalize lB[j] = x at *
              by_cases h100 : (100 : Int) < (x.s.size : Int)
              · go_wp2_with fail
                go_ret
                exact ⟨rfl, HW1.out.alloc HW1.out.size _⟩
              · have hj20 : (j : Int) ≤ 20 := by have := HB20.out; omega
                go_wp2_with fail
                go_roundw
                case rel => exact ⟨j + 1, by omega, by go_num, hbj.alloc hbj.size _⟩
                case measure => simp [intOf]; omega
            · have hjl' : ¬ (j : Int) < (nB : Int) := by omega
              obtain ⟨c0, c1, c2, c3⟩ := HC.out wr hbj
              have HTB := Lib.hid (HTA.out.on hbj)
              have HBB := Lib.hid (HBA.out.trans (hbj.mono HBA.out.size))
              have HBJ := Lib.hid hbj
              clear hj hjl hbj HTA HBA
              obtain ⟨hk0, hk255⟩ := HKD.out
              by_cases hm : kd % 2 = 0
              · have q0 : (kd % 2 == 0) = true := by simp [hm]
                go_upto_region 21 with (fail)
                have hx2 := Blk.new wr 62 #[.int .i64 at_, .string ⟨#[]⟩]
                have hbx := (Below.refl wr.heap.size wr).alloc (Nat.le_refl _) (.cells #[.int .i64 at_, .string ⟨#[]⟩] 62)
                have HT2 := Lib.hid (HTB.out.on hbx)
                have HB2 := Lib.hid (HBB.out.trans (hbx.mono HBB.out.size))
                have HJ2 := Lib.hid (HBJ.out.trans (hbx.mono HBJ.out.size))
                have HFG := Lib.hid (show ∀ q, foot A c = some q → q < wr.heap.size from fun q hq => by obtain ⟨_, _, hB⟩ := HTB.out.row.foot_at q hq; exact hB.lt)
                have HXB := Lib.hid hx2
                have HG2 := Lib.hid (show wr.heap.size ≠ g by have := HTB.out.log.lt; omega)
                clear hbx HTB HBB HBJ c0 c1 c2 c3 hm q0 hk0 hk255
                generalize hW2 : wr.alloc (.cells #[.int .i64 at_, .string ⟨#[]⟩] 62) = W2 at *
                generalize wr.heap.size = G2 at *
                obtain ⟨c0, c1, c2, c3⟩ := HC.out W2 HJ2.out
                clear hW2
                have HX := Lib.hid (fun (W : World) (hW : Below W2.heap.size W2 W) =>
                  have hk := hx2.below hW hx2.lt
                  (⟨by rw [hk.cell]; rfl, by rw [hk.cell]; rfl⟩ : W.cell? ⟨G2, 0, none⟩ = some (.int .i64 at_) ∧ W.cell? ⟨G2, 1, none⟩ = some (.string ⟨#[]⟩)))
                clear hx2
                go_cut [94] (fun v wx => v = .bool (decide (at_ < lastT es)) ∧ ∃ N, wx = W2.drewN N)
                case first => as_aux_lemma =>
                  have hlen := HT2.out.len
                  cases n with
                  | zero =>
                    have he : es = [] := List.eq_nil_of_length_eq_zero hlen
                    subst he
                    clear hlen
                    go_big_quiet (fail)
                    go_wp2_with fail
                    go_meet
                    exact ⟨by rw [lastT_nil], nq, rfl⟩
                  | succ q =>
                    have hql : q < es.length := by omega
                    have hls := lastT_succ es q hlen
                    obtain ⟨b3, off3, hA3, _, d0, _⟩ := Ents.at_ HT2.out.ents hql
                    subst hA3
                    generalize es[q].t = y at *
                    have hq1 : ((q + 1 : Nat) : Int) - 1 = (q : Int) := by omega
                    have hq2 : (0 : Int) < ((q + 1 : Nat) : Int) := by omega
                    have hq3 : (((q + 1 : Nat) : Int) == 0) = false := by simp; omega
                    have hq4 : (q : Int) < ((q + 1 : Nat) : Int) := by omega
                    have hq5 : ((q : Int) + 1 == 0) = false := by simp; omega
                    have hq6 : (decide ((q : Int) + 1 = 0)) = false := by simp; omega
                    have hw : IntKind.i64.wrap (q : Int) = (q : Int) := wr_i64 (by omega) (by have := HK.out; omega)
                    have HLS := Lib.hid hls
                    clear hlen hls
                    by_cases hty : at_ < y
                    · have hd : decide (at_ < y) = true := decide_eq_true hty
                      go_big_quiet (fail)
                      go_wp2_with fail
                      go_meet
                      exact ⟨by rw [HLS.out]; first | rfl | (rw [hd]; rfl) | simp [hty], nq, rfl⟩
                    · have hd : decide (at_ < y) = false := decide_eq_false hty
                      go_big_quiet (fail)
                      go_wp2_with fail
                      go_meet
                      exact ⟨by rw [HLS.out]; first | rfl | (rw [hd]; rfl) | simp [hty], nq, rfl⟩
                case rest =>
                  obtain ⟨rfl, N, rfl⟩ := hcut
                  have HT3 := Lib.hid (HT2.out.on (below_drewN (Below.refl W2.heap.size W2) N))
                  have HB3 := Lib.hid (below_drewN HB2.out N)
                  have HJ3 := Lib.hid (below_drewN HJ2.out N)
                  obtain ⟨c0, c1, c2, c3⟩ := HC.out _ HJ3.out
                  obtain ⟨e0, e1⟩ := HX.out _ (below_drewN (Below.refl W2.heap.size W2) N)
                  have HX3 := Lib.hid (HXB.out.drewN N)
                  clear HT2 HB2 HJ2 HX HXB
                  generalize W2.drewN N = W3 at *
                  have hlen := HT3.out.len
                  have hn1024 : n ≤ 1000 := by have := HK.out; omega
                  have HN := Lib.hid hn1024
                  by_cases hlt5 : at_ < lastT es
                  · have e5 : addF es ⟨at_, no⟩ = (es, 5) := by unfold addF; rw [if_pos hlt5]
                    have HA5 := Lib.hid (lAdd_any w.heap.size g fb es ⟨at_, no⟩ W3 HT3.out.log (by omega) HB3.out.size)
                    rw [e5] at HA5
                    have hd5 : decide (at_ < lastT es) = true := decide_eq_true hlt5
                    rw [hd5]
                    clear e5 hd5 hlt5 hlen hn1024
                    go_wp2_with fail
                    refine HA5.out.mono ?_
                    rintro e w4 ⟨rfl, hm4⟩
                    have hb4 := HB3.out.trans (HT3.out.below hm4 HB3.out.size)
                    obtain ⟨f4, ht4⟩ := HT3.out.moves hm4
                    clear hm4 c0 c1 c2 c3 e0 e1
                    go_wp2_with fail
                    go_roundw
                    case rel => exact ⟨k + 1, n, es, f4, A, c, by have := HK.out; omega, by have := HK.out; go_num, rfl, ht4, by have := HK.out; omega, hb4⟩
                    case measure => have := HK.out; simp [intOf]; omega
                  · have e5 : addF es ⟨at_, no⟩ = (es ++ [⟨at_, no⟩], 0) := by unfold addF; rw [if_neg hlt5, if_neg (by omega)]
                    have hd5 : decide (at_ < lastT es) = false := decide_eq_false hlt5
                    rw [hd5]
                    have HE5 := Lib.hid e5
                    obtain ⟨i0, hi0, hz0, hz1', hz2'⟩ := info_parts ent_row
                    have hx4 : Sees (W3.alloc (.cells #[.int .i64 at_, .string ⟨#[]⟩] 62)) (W3.alloc (.cells #[.int .i64 at_, .string ⟨#[]⟩] 62)).heap.size (some ⟨W3.heap.size, 0, none⟩) (1 * 2) (ecs [⟨at_, no⟩]) := sees_new W3 #[.int .i64 at_, .string ⟨#[]⟩] 62
                    have hb3 := (Below.refl W3.heap.size W3).alloc (Nat.le_refl _) (.cells #[.int .i64 at_, .string ⟨#[]⟩] 62)
                    have HT4 := Lib.hid (HT3.out.on hb3)
                    have HBA := Lib.hid hb3
                    have hm1 : n + 1 ≤ maxLen := Nat.le_trans (show n + 1 ≤ 1024 by omega) (by decide)
                    have hm2 : (n + 1) * 24 ≤ 140737488355328 := by clear hm1; omega
                    have HBZ := Lib.hid (Nat.le_trans HB3.out.size HBA.out.size)
                    clear e5 hd5 hlt5 hlen hn1024 hb3
                    go_wp2_with (at_builtin; go_loud (
                      refine wpList_append_freeN (sz := 2) _ rfl (.tmp 95) (.tmp 97) _ rfl w.heap.size 62 i0 _ 24 sl_ent hi0 hz0 hz1' hz2' rfl (by decide) A n c (ecs es) rfl HT4.out.row _ _ 1 1 (ecs [⟨at_, no⟩]) rfl hx4 (ecs_one _) hm1 hm2 HBZ.out ?_
                      intro A5 c5 w5 ha5
                      have hxb5 := (HX3.out.alloc (.cells #[.int .i64 at_, .string ⟨#[]⟩] 62)).grown ha5.2.1 (fun e => by have := HFG.out _ e.symm; omega)
                      have e0 : w5.cell? ⟨G2, 0, none⟩ = some (.int .i64 at_) := (by rw [hxb5.cell]; rfl)
                      have e1 : w5.cell? ⟨G2, 1, none⟩ = some (.string ⟨#[]⟩) := (by rw [hxb5.cell]; rfl)
                      have HT5 := Lib.hid (HT4.out.grows (m := 1) (l := [⟨at_, no⟩]) rfl ha5)
                      have HB5 := Lib.hid ((HB3.out.trans (HBA.out.mono HB3.out.size)).trans (ha5.below HT4.out.row (Below.refl w.heap.size _) HBZ.out (Nat.le_refl _)))
                      clear ha5 hxb5))
                    have HN5 := Lib.hid (show es.length ≤ 1048576 by have := HT3.out.len; have := HN.out; omega)
                    refine (lAdd_any w.heap.size g fb es ⟨at_, no⟩ w5 HT5.out.log HN5.out HB5.out.size).mono ?_
                    rintro e w6 ⟨rfl, hm6⟩
                    rw [HE5.out] at hm6 ⊢
                    have hb6 := HB5.out.trans (HT5.out.below hm6 HB5.out.size)
                    obtain ⟨f6, ht6⟩ := HT5.out.moves hm6
                    clear hm6 hm1 hm2 hx4
                    go_wp2_with fail
                    go_roundw
                    case rel => exact ⟨k + 1, n + 1, es ++ [⟨at_, no⟩], f6, A5, c5, by have := HK.out; omega, by have := HK.out; go_num, rfl, ht6, by have := HK.out; omega, hb6⟩
                    case measure => have := HK.out; simp [intOf]; omega
              · have q0 : (kd % 2 == 0) = false := by simpa using hm
                go_wp2_with fail
                clear c0 c1 c2 c3
                have hn1000 : n ≤ 1000 := by have := HK.out; omega
                have HN := Lib.hid hn1000
                have HEL := Lib.hid (show es.length ≤ 1048576 by have := HTB.out.len; omega)
                have hsl := Sees.below HSB.out HBB.out
                have hsl2 : Ents wr wr.heap.size AB lB := Sees.more hsl HBB.out.size
                refine (lawPut_any kd ai at_ AB nB cB lB A n c es w.heap.size wr HTB.out.row HTB.out.len (by omega) hsl2 HLB.out HCB.out (by have := HB20.out; omega) HBB.out.size).mono ?_
                clear hsl hsl2 hn1000
                rintro e w5 ⟨A5, n5, c5, rfl, hn5, hf5, hk5, hb5⟩
                have HT5 := Lib.hid (HTB.out.other hn5 hf5 hk5 hb5)
                have HB5 := Lib.hid (bthen HBB.out hb5)
                obtain ⟨c0, c1, c2, c3⟩ := HC.out w5 (bthen HBJ.out hb5)
                have HP5 := Lib.hid (show (putF es ai at_ lB).1.length ≤ n + 20 by
                  unfold putF
                  split
                  · have := HTB.out.len; simp only; omega
                  · rename_i h0
                    split
                    · have := HTB.out.len; simp only; omega
                    · split
                      · have := HTB.out.len; simp only; omega
                      · simp only [List.length_append, List.length_drop, List.length_take]
                        have := HLB.out
                        have := HB20.out
                        have := HTB.out.len
                        omega)
                have HN5 := Lib.hid hn5
                clear hn5 hf5 hk5 hb5 HTB HBB HBJ hm q0 hk0 hk255
                go_wp2_with fail
                refine (lPut_any w.heap.size g fb es ai at_ AB nB cB lB w5 HT5.out.log HEL.out ?_ HLB.out HCB.out (by have := HB20.out; omega) ?_ HB5.out.size).mono ?_
                · exact Sees.more (Sees.below HSB.out HB5.out) HB5.out.size
                · intro h0 a ha
                  obtain ⟨b9, off9, hA9, hb9, _⟩ := Ents.at_ HSB.out (j := 0) (by have := HLB.out; omega)
                  rw [hA9] at ha
                  injection ha with ha
                  subst ha
                  have := HT5.out.log.base_le
                  simp only
                  omega
                rintro e w6 ⟨rfl, hm6⟩
                have HB6 := Lib.hid (HB5.out.trans (HT5.out.below hm6 HB5.out.size))
                obtain ⟨f6, ht6⟩ := HT5.out.moves hm6
                have HT6 := Lib.hid ht6
                have HN6 := HN5.out
                have HP6 := HP5.out
                have HN7 := Lib.hid HN6
                have HP7 := Lib.hid HP6
                clear hm6 ht6 HT5 HB5 HN6 HP6 HN5 HP5 c0 c1 c2 c3
                generalize putF es ai at_ lB = R at *
                obtain ⟨R1, R2, R3⟩ := R
                simp only
                have hr1 : (R2 != R2) = false := by simp
                have hr2 : ((R3 : Int) != (R3 : Int)) = false := by simp
                go_wp2_with fail
                go_roundw
                case rel => exact ⟨k + 1, n5, R1, f6, A5, c5, by have := HK.out; omega, by have := HK.out; go_num, rfl, HT6.out, by have := HK.out; have := HN7.out; have := HP7.out; simp only at *; omega, HB6.out⟩
                case measure => have := HK.out; simp [intOf]; omega
      · have hlt' : ¬ (k : Int) < (n' : Int) := by omega
        have hlen := htwo.len
        have hn1000 : n ≤ 1000 := by omega
        subst hlen
        have HTW := Lib.hid htwo
        have HB := Lib.hid hbel
        have HN := Lib.hid hn1000
        have HAL := Lib.hid (lAll_any w.heap.size g fb es wr htwo.log (by omega))
        clear htwo hbel hnk hk hlt hn1000 hn50 HA
        go_wp2_with fail
        refine HAL.out.mono ?_
        rintro e w5 ⟨A5, c5, rfl, hf5, hb5⟩
        have HT5 := Lib.hid (HTW.out.on hb5)
        have HB5 := Lib.hid (bthen HB.out hb5)
        have HE5 := Lib.hid (show Ents w5 w5.heap.size A5 es from hf5.sees)
        have HR5 := Lib.hid HT5.out.ents
        clear hf5 hb5 HTW HB HAL hlt' hz2
        generalize hNN : es.length = NN at *
        go_wp2_with fail
        go_loopw [22, 23, 140] (fun tv lv iv wr => ∃ j : Nat, j ≤ NN ∧ tv = .int .i64 (seekT es idx j) ∧ lv = .int .i64 (upT 0 es j) ∧ iv = .int .i64 (j : Int) ∧ Below w5.heap.size w5 wr) (fun _ _ iv _ => NN - (intOf iv).toNat)
        case atStart => exact ⟨0, Nat.zero_le _, by rw [seekT_zero], by rw [upT_zero], rfl, Below.refl _ _⟩
        case round =>
          obtain ⟨j, hj, rfl, rfl, rfl, hbj⟩ := hrel
          by_cases hjl : j < NN
          · have hje : j < es.length := by omega
            obtain ⟨b3, off3, hA3, hbl3, d0, d1⟩ := Ents.at_ HR5.out hje
            obtain ⟨b4, off4, hA4, hbl4, f0, f1⟩ := Ents.at_ HE5.out hje
            have d0' := (hbj.cell (p := ⟨b3, off3 + j * 2, none⟩) hbl3).trans d0
            have d1' := (hbj.cell (p := ⟨b3, off3 + j * 2 + 1, none⟩) hbl3).trans d1
            have f0' := (hbj.cell (p := ⟨b4, off4 + j * 2, none⟩) hbl4).trans f0
            have f1' := (hbj.cell (p := ⟨b4, off4 + j * 2 + 1, none⟩) hbl4).trans f1
            have hjl' : (j : Int) < (NN : Int) := by omega
            have hup := upT_succ 0 es j hje
            have HSH := Lib.hid (seekT_hit es idx j hje)
            have HSM := Lib.hid (seekT_miss es idx j)
            have HJN := Lib.hid (show j < NN ∧ NN ≤ 1000 from ⟨hjl, HN.out⟩)
            clear d0 d1 f0 f1
            generalize es[j] = x at *
            have HUP := Lib.hid hup
            generalize seekT es idx j = sj at *
            generalize upT 0 es j = uj at *
            subst hA3
            subst hA4
            clear hup hj hjl hbl3 hbl4
            go_upto_region 40 with (fail)
            have hx3 := Blk.new wr 62 #[.int .i64 x.t, .string x.s]
            have HB6 := Lib.hid (hbj.alloc hbj.size (.cells #[.int .i64 x.t, .string x.s] 62))
            have f0 := (World.cell?_alloc_lt wr (.cells #[.int .i64 x.t, .string x.s] 62) ⟨b4, off4 + j * 2, none⟩ (World.block_lt_of_cell? wr _ f0')).trans f0'
            have f1 := (World.cell?_alloc_lt wr (.cells #[.int .i64 x.t, .string x.s] 62) ⟨b4, off4 + j * 2 + 1, none⟩ (World.block_lt_of_cell? wr _ f1')).trans f1'
            clear hbj d0' d1' f0' f1'
            generalize wr.alloc (.cells #[.int .i64 x.t, .string x.s] 62) = W6 at *
            generalize wr.heap.size = G6 at *
            have e0 : W6.cell? ⟨G6, 0, none⟩ = some (.int .i64 x.t) := by rw [hx3.cell]; rfl
            have e1 : W6.cell? ⟨G6, 1, none⟩ = some (.string x.s) := by rw [hx3.cell]; rfl
            have hq1 : (x.t != x.t) = false := by simp
            have HX3 := Lib.hid hx3
            clear hx3
            go_big_quiet (fail)
            have hjk : (j : Int) ≤ 1000 := by have := HJN.out; omega
            have e0 : (W6.drewN nq).cell? ⟨G6, 0, none⟩ = some (.int .i64 x.t) := by rw [(HX3.out.drewN nq).cell]; rfl
            by_cases hix : (j : Int) + 1 = idx
            · have hix2 : ((j : Int) + 1 == idx) = true := by simp [hix]
              go_wp2_with fail
              go_roundw
              case rel => exact ⟨j + 1, HJN.out.1, by rw [HSH.out hix], by rw [HUP.out], by go_num, below_drewN HB6.out nq⟩
              case measure => have := HJN.out; simp [intOf]; omega
            · have hix2 : ((j : Int) + 1 == idx) = false := by simpa using hix
              go_wp2_with fail
              go_roundw
              case rel => exact ⟨j + 1, HJN.out.1, by rw [HSM.out hix], by rw [HUP.out], by go_num, below_drewN HB6.out nq⟩
              case measure => have := HJN.out; simp [intOf]; omega
          · have hjl' : ¬ (j : Int) < (NN : Int) := by omega
            have hjn : j = NN := by omega
            subst hjn
            have HT6 := Lib.hid (HT5.out.on hbj)
            have HB6 := Lib.hid (bthen HB5.out hbj)
            have hup : upT 0 es j = lastT es := by rw [← hNN]; exact upT_all es
            have hsk : (termF es idx).1 = seekT es idx j := by rw [seekT_all, hNN]
            have hok : (termF es idx).2 = (decide (0 ≤ idx) && decide (idx ≤ (j : Int))) := by rw [termF_ok, hNN]
            have hte := lTerm_any w.heap.size g fb es idx wr HT6.out.log (by have := HN.out; omega)
            have hla := lLast_any w.heap.size g fb es wr HT6.out.log (by have := HN.out; omega)
            have hfr := lFrom_any w.heap.size g fb es idx mst wr HT6.out.log (by have := HN.out; omega) HIDX.out
            rw [hsk, hok] at hte
            rw [hNN] at hla
            rw [hup]
            have HTE := Lib.hid hte
            have HLA := Lib.hid hla
            have HFR := Lib.hid hfr
            have HNN := Lib.hid hNN
            clear hj hjl HT5 HB5 HE5 HR5 hbj hup hsk hok hte hla hfr hNN
            generalize seekT es idx j = sk at *
            go_wp2_with fail
            refine HTE.out.mono ?_
            rintro e w6 ⟨rfl, rfl⟩
            go_wp2_with fail
            refine HLA.out.mono ?_
            rintro e w7 ⟨rfl, rfl⟩
            go_wp2_with fail
            refine HFR.out.mono ?_
            rintro e w8 ⟨A8, n8, c8, rfl, hn8, hf8, hb8⟩
            have HT8 := Lib.hid (HT6.out.on hb8)
            have HB8 := Lib.hid (bthen HB6.out hb8)
            have hE8 : Ents w8 w8.heap.size A8 (fromF es idx mst) := by unfold Ents; rw [hn8]; exact hf8.sees
            have HE8 := Lib.hid hE8
            have HR8 := Lib.hid HT8.out.ents
            have HN8 := Lib.hid hn8
            have hmx : (if idx < 1 then 1 else idx) = max idx 1 := by split <;> omega
            clear hn8 hf8 hb8 hE8 HT6 HB6 HTE HLA HFR hjl'
            go_upto_region 50 with (fail)
            clear hmx
            have HGO := Lib.hid (fromF_go es idx mst)
            have HGE := Lib.hid (fromF_get es idx mst)
            have HM1 := Lib.hid (show 1 ≤ max idx 1 by omega)
            generalize max idx 1 = M at *
            go_wp2_with fail
            go_loopw [32, 33] (fun nv iv wr => ∃ j2 : Nat, j2 ≤ n8 ∧ nv = .int .i64 (j2 : Int) ∧ iv = .int .i64 (M + (j2 : Int)) ∧ Below w8.heap.size w8 wr) (fun nv _ _ => n8 - (intOf nv).toNat)
            case atStart => exact ⟨0, Nat.zero_le _, rfl, by simp, Below.refl _ _⟩
            case round =>
              obtain ⟨j2, hj2, rfl, rfl, hbq⟩ := hrel
              by_cases hjl2 : j2 < n8
              · have hj3 : j2 < (fromF es idx mst).length := by rw [HN8.out]; exact hjl2
                obtain ⟨hgo1, hgo2⟩ := (HGO.out j2).1 hj3
                obtain ⟨p, hp, hpe, hget⟩ := HGE.out j2 hj3
                rw [HNN.out] at hgo1
                obtain ⟨b3, off3, hA3, hbl3, d0, d1⟩ := Ents.at_ HR8.out hp
                obtain ⟨b4, off4, hA4, hbl4, f0, f1⟩ := Ents.at_ HE8.out hj3
                rw [hget] at f0 f1
                have d0' := (hbq.cell (p := ⟨b3, off3 + p * 2, none⟩) hbl3).trans d0
                have d1' := (hbq.cell (p := ⟨b3, off3 + p * 2 + 1, none⟩) hbl3).trans d1
                have f0' := (hbq.cell (p := ⟨b4, off4 + j2 * 2, none⟩) hbl4).trans f0
                have f1' := (hbq.cell (p := ⟨b4, off4 + j2 * 2 + 1, none⟩) hbl4).trans f1
                have HPE := Lib.hid hpe
                have h5 : (p : Int) + 1 ≤ (j : Int) := by omega
                have hpj : (p : Int) < (j : Int) := by omega
                have h6 : decide ((n8 : Int) ≤ (j2 : Int)) = false := by rw [decide_eq_false_iff_not]; omega
                have h7 : (j2 : Int) < (n8 : Int) := by omega
                have h8 : ¬ (n8 : Int) ≤ (j2 : Int) := by omega
                have h9 : decide ((j2 : Int) ≥ (n8 : Int)) = false := by rw [decide_eq_false_iff_not]; omega
                have hj1000 : (j2 : Int) ≤ 1000 := by have := HM1.out; have := HPE.out; have := HN.out; omega
                have hp1000 : (p : Int) ≤ 1000 := by have := HN.out; omega
                rw [← hpe]
                have hwp : IntKind.i64.wrap (p : Int) = (p : Int) := wr_i64 (by omega) (by omega)
                clear d0 d1 f0 f1 hget hpe hgo1 hbl3 hbl4
                generalize es[p] = x at *
                have hq1 : (x.t != x.t) = false := by simp
                have HBQ := Lib.hid hbq
                have HJ2 := Lib.hid hjl2
                subst hA3
                subst hA4
                clear hj2 hjl2 hbq
                go_upto_region 54 with (fail)
                go_big_quiet (fail)
                go_wp2_with fail
                go_roundw
                case rel => exact ⟨j2 + 1, HJ2.out, by go_num, by (first | go_num | (have := HPE.out; congr 1; omega)), below_drewN HBQ.out nq⟩
                case measure => have := HJ2.out; simp [intOf]; omega
              · have hjn2 : j2 = n8 := by omega
                subst hjn2
                have hstop : ¬ (M + (j2 : Int) ≤ (j : Int) ∧ (j2 : Int) < mst) := fun h => by
                  have h1 := (HGO.out j2).2 (by rw [HNN.out]; exact h)
                  rw [HN8.out] at h1
                  exact absurd h1 (Nat.lt_irrefl _)
                have HT9 := Lib.hid (HT8.out.on hbq)
                have HB9 := Lib.hid (bthen HB8.out hbq)
                have HYG := Lib.hid (lYounger_any w.heap.size g fb es idx trm wr HT9.out.log (by have := HNN.out; have := HN.out; omega))
                clear hj2 hjl2 hbq HE8 HR8 HT8 HB8 HGO HGE HM1 HN8
                have h2 : ¬ M + (j2 : Int) ≤ (j : Int) ∨ (M + (j2 : Int) ≤ (j : Int) ∧ ¬ (j2 : Int) < mst) := by omega
                clear hstop
                rcases h2 with h2 | ⟨h2, h3⟩
                all_goals
                  go_upto_region 57 with (fail)
                  go_cut [34] (fun v wx => v = .bool (youngF es idx trm) ∧ wx = wr)
                  case first => as_aux_lemma =>
                    have hyf : youngF es idx trm = (decide (lastT es < trm) || (decide (trm = lastT es) && decide ((j : Int) ≤ idx))) := by unfold youngF; rw [HNN.out]
                    have HYF := Lib.hid hyf
                    clear hyf
                    generalize lastT es = q at *
                    by_cases k1 : q < trm
                    · go_wp2_with fail
                      go_meet
                      exact ⟨by rw [HYF.out, decide_eq_true k1]; rfl, rfl⟩
                    · by_cases k2 : trm = q
                      · subst k2
                        go_wp2_with fail
                        go_meet
                        exact ⟨by rw [HYF.out]; simp, rfl⟩
                      · have k3 : (trm == q) = false := by rw [beq_eq_false_iff_ne]; exact k2
                        go_wp2_with fail
                        go_meet
                        exact ⟨by rw [HYF.out, decide_eq_false (show ¬ q < trm by omega), decide_eq_false k2]; first | rfl | simp, rfl⟩
                  case rest =>
                    obtain ⟨rfl, rfl⟩ := hcut
                    generalize youngF es idx trm = yg at *
                    generalize lastT es = q at *
                    by_cases a1 : 0 ≤ idx
                    · by_cases a2 : idx ≤ (j : Int)
                      · have a3 : decide (0 ≤ idx) = true := decide_eq_true a1
                        have a4 : decide (idx ≤ (j : Int)) = true := decide_eq_true a2
                        rw [a3, a4]
                        go_wp2_with fail
                        refine HYG.out.mono ?_
                        rintro e w9 ⟨rfl, rfl⟩
                        go_wp2_with fail
                        go_ret
                        exact ⟨rfl, HB9.out⟩
                      · have a3 : decide (0 ≤ idx) = true := decide_eq_true a1
                        have a4 : decide (idx ≤ (j : Int)) = false := decide_eq_false a2
                        rw [a3, a4]
                        go_wp2_with fail
                        refine HYG.out.mono ?_
                        rintro e w9 ⟨rfl, rfl⟩
                        go_wp2_with fail
                        go_ret
                        exact ⟨rfl, HB9.out⟩
                    · have a3 : decide (0 ≤ idx) = false := decide_eq_false a1
                      rw [a3]
                      go_wp2_with fail
                      refine HYG.out.mono ?_
                      rintro e w9 ⟨rfl, rfl⟩
                      go_wp2_with fail
                      go_ret
                      exact ⟨rfl, HB9.out⟩
end Go.Proofs.Ytcmeindekbjefaa.logPlays
