/- HardCrash: behind a crash what is recovered is what the synced saves tell, and some of the first records of those behind. For every input, without a condition. -/
import Derived.Test.YtmhgbpgbnfdokaaRows
import Derived.Test.YtmhgbpgbnfdokaaFix6
import Derived.Test.YtmhgbpgbnfdokaaHcM
import Derived.ProofKit
import Derived.OpenShut
import Derived.Deep.CutBlock
namespace Go.Proofs.Ytmhgbpgbnfdokaa.hardCrash
open Go.ChangeShapes Go.WideShapes Go.ChangeAt Go.RowKit Go.Deep
set_option linter.unusedVariables false

theorem own : ownKnob Try.prog.godebug = none := by kernel_rfl
theorem laidOut : laidOutB Try.prog = true := by kernel_rfl
theorem rightB_of {r : RecM} (h : RightM r) : rightB r = true := by unfold rightB; simp [h.1, h.2]

/-- so many saves have been written -/
def Outer (w wr : World) (g n1 : Nat) (ls : List SvL) (A5 : Option Addr) (c5 : Nat) (k : Nat) (A' : Option Addr) (c' : Nat) : Prop :=
  FreeN 2 wr (g + 1) 46 A' (RK ls k).length c' (tcs (RK ls k)) ∧
  Dsk wr g g (recsB (RK ls k)) (if k ≤ n1 then 0 else (recsB (RK ls n1)).length) ∧
  (∀ r ∈ RK ls k, RightM r) ∧ (recsB (RK ls k)).length ≤ 9000 * k ∧ (RK ls k).length ≤ 13 * k ∧ Below w.heap.size w wr ∧
  wr.ownsRow (g + 1) 41 5 (.slice A5 ls.length c5) ls.length (svcs ls)
/-- so many of a save's records have been put behind all -/
def Inner (w W5 wr : World) (g s4 b6 gS : Nat) (bs : List UInt8) (cs : Array Value) (pre ms : List RecM) (ls : List SvL) (A5 : Option Addr) (c5 j : Nat) (A' : Option Addr) (c' : Nat) : Prop :=
  FreeN 2 wr (g + 1) 46 A' (pre.length + j) c' (tcs (pre ++ ms.take j)) ∧
  (∀ q, foot A' c' = some q → q < b6 ∨ W5.heap.size ≤ q) ∧
  Win b6 W5.heap.size W5 wr ∧ Dsk wr g g bs s4 ∧ Blk wr gS 41 cs ∧ wr.ownsRow (g + 1) 41 5 (.slice A5 ls.length c5) ls.length (svcs ls) ∧ Below w.heap.size w wr ∧ W5.heap.size ≤ wr.heap.size
theorem Blk5 {w : World} {g : Nat} {t : TypeId} {a b c d e : Value} (h : Blk w g t #[a, b, c, d, e]) : w.cell? ⟨g, 0, none⟩ = some a ∧ w.cell? ⟨g, 1, none⟩ = some b ∧ w.cell? ⟨g, 2, none⟩ = some c ∧ w.cell? ⟨g, 3, none⟩ = some d ∧ w.cell? ⟨g, 4, none⟩ = some e := ⟨by rw [h.cell]; rfl, by rw [h.cell]; rfl, by rw [h.cell]; rfl, by rw [h.cell]; rfl, by rw [h.cell]; rfl⟩
/-- a record of a row that lies in a window -/
theorem row_in {W5 wr : World} {b6 c6 j : Nat} {A6 : Option Addr} {ms : List RecM} (h : FreeN 2 W5 b6 46 A6 ms.length c6 (tcs ms)) (hw : Win b6 W5.heap.size W5 wr) (hj : j < ms.length) :
    ∃ q off, A6 = some ⟨q, off, none⟩ ∧ wr.cell? ⟨q, off + j * 2, none⟩ = some (cb ms[j].1) ∧ wr.cell? ⟨q, off + j * 2 + 1, none⟩ = some (.string (tok ms[j].2)) := by
  obtain ⟨q, off, cur, hA, hq, hB, hs, hx⟩ := h.2.2.2 (by have := h.2.1; omega)
  have ht : Toks W5 W5.heap.size A6 ms := h.sees
  obtain ⟨b, off', hA', hb, d0, d1⟩ := ht.at_ hj
  rw [hA] at hA'
  injection hA' with hA'
  injection hA' with e1 e2 _
  subst e1 e2
  have hk := hw q hq hB.lt
  exact ⟨q, off, hA, (World.cell?_of_block hk).trans d0, (World.cell?_of_block hk).trans d1⟩

set_option maxRecDepth 100000 in
set_option maxHeartbeats 6400000 in
theorem walk (A1 : Option Addr) (n1 c1 : Nat) (f1 : Nat → SvL) (A2 : Option Addr) (n2 c2 : Nat) (f2 : Nat → SvL) (keep at_ : Int) (y : UInt8) (w : World) (hr1 : SavesL w w.heap.size A1 n1 f1) (hc1 : n1 ≤ c1) (hm1 : c1 ≤ maxLen)
    (hr2 : SavesL w w.heap.size A2 n2 f2) (hc2 : n2 ≤ c2) (hm2 : c2 ≤ maxLen) :
    Calls Try.prog 5 #[.slice A1 n1 c1, .slice A2 n2 c2, .int .i64 keep, .int .i64 at_, .int .u8 (y.toNat : Int)] w fun e w' => e = .returned (.bool true) ∧ Below w.heap.size w w' := by
  have hm19 : c1 ≤ 9223372036854775807 := hm1
  have hm29 : c2 ≤ 9223372036854775807 := hm2
  by_cases hg1 : 10 < n1
  · have hg2 : (10 : Int) < (n1 : Int) := by omega
    go_enter Try.func5, Try.ntmps5
    go_wp2_with fail
    refine (fixed6_any _).mono ?_
    rintro e w1 ⟨rfl, hb1⟩
    go_wp2_with fail
    go_ret
    exact ⟨rfl, hb1⟩
  by_cases hg3 : 10 < n2
  · have hg2 : ¬ (10 : Int) < (n1 : Int) := by omega
    have hg4 : (10 : Int) < (n2 : Int) := by omega
    go_enter Try.func5, Try.ntmps5
    go_wp2_with fail
    refine (fixed6_any _).mono ?_
    rintro e w1 ⟨rfl, hb1⟩
    go_wp2_with fail
    go_ret
    exact ⟨rfl, hb1⟩
  have hg2 : ¬ (10 : Int) < (n1 : Int) := by omega
  have hg4 : ¬ (10 : Int) < (n2 : Int) := by omega
  have hq1 : n1 ≤ 10 := by omega
  have hq2 : n2 ≤ 10 := by omega
  obtain ⟨i0, hi0, hz0, hz1, hz2⟩ := info_parts save_row
  obtain ⟨ls1, hls1⟩ : ∃ ls1, (List.range n1).map f1 = ls1 := ⟨_, rfl⟩
  obtain ⟨ls2, hls2⟩ : ∃ ls2, (List.range n2).map f2 = ls2 := ⟨_, rfl⟩
  have hs1 := hr1.sees
  have hs2 := hr2.sees
  rw [hls1] at hs1
  rw [hls2] at hs2
  have HN1 := Lib.hid (show ls1.length = n1 by rw [← hls1]; simp)
  have HN2 := Lib.hid (show ls2.length = n2 by rw [← hls2]; simp)
  have HES := Lib.hid (show ∀ x ∈ ls1 ++ ls2, x.s.es.length = x.n ∧ x.n ≤ maxLen ∧ Ents w w.heap.size x.A x.s.es from fun x hx => by
    rcases List.mem_append.1 hx with h | h
    · rw [← hls1] at h
      obtain ⟨i, hi, rfl⟩ := List.mem_map.1 h
      exact hr1.1 i (List.mem_range.1 hi)
    · rw [← hls2] at h
      obtain ⟨i, hi, rfl⟩ := List.mem_map.1 h
      exact hr2.1 i (List.mem_range.1 hi))
  have HS1 := Lib.hid hs1
  have HS2 := Lib.hid hs2
  clear hr1 hr2 hm1 hm2 hm19 hm29 hg1 hg3 hs1 hs2 hls1 hls2
  go_enter Try.func5, Try.ntmps5
  go_wp2_with fail
  refine (fixed6_any _).mono ?_
  rintro e w1 ⟨rfl, hb1⟩
  go_wp2_with fail
  refine (dNew_any w1).mono ?_
  rintro e w2 ⟨rfl, hd2, hb2⟩
  have hbw := bthen hb1 hb2
  have hgw := hb1.size
  clear hb1 hb2
  generalize w1.heap.size = g at *
  have HGW := Lib.hid hgw
  have hgl := hd2.lt
  have ho3 : (w2.alloc (.cells #[] 41)).ownsRow (g + 1) 41 5 (.slice (some ⟨w2.heap.size, 0, none⟩) 0 0) 0 [] := World.ownsRow_made w2 _ 0 hgl (by decide) rfl
  have hd3 := hd2.alloc (.cells #[] 41)
  have hb3 := hbw.alloc hbw.size (.cells #[] 41)
  have hz3 : g + 1 ≤ (w2.alloc (.cells #[] 41)).heap.size := by simp; omega
  have hs3 : Sees (w2.alloc (.cells #[] 41)) w.heap.size A1 (n1 * 5) (svcs ls1) := HS1.out.below hb3
  have k1 : 0 + n1 ≤ maxLen := by unfold maxLen; omega
  have k2 : (0 + n1) * 56 ≤ 140737488355328 := by omega
  have k3 : 0 + n1 + n2 ≤ maxLen := by unfold maxLen; omega
  have k4 : (0 + n1 + n2) * 56 ≤ 140737488355328 := by omega
  clear hd2 hbw
  go_wp2_with (first
    | (at_builtin; refine wpList_append_rows _ rfl (.tmp 34) (.tmp 35) _ rfl (g + 1) 41 i0 _ 5 56 ssave_u hi0 hz0 hz1 hz2 rfl (by decide) _ 0 [] rfl ho3 w.heap.size A1 n1 c1 (svcs ls1) rfl hs3 (svcs_one _) k1 k2 hz3 ?_
       intro v4 w4 ho4 hg4'
       have hb4 := hb3.grown hg4' hb3.size (fun q hq => by have := (ho3.lt q hq).1; omega)
       have hd4 := own_far_dsk ho3 hg4' (by decide) (by decide) hd3
       have hs4 : Sees w4 w.heap.size A2 (n2 * 5) (svcs ls2) := (HS2.out.below hb4)
       have hz4 : g + 1 ≤ w4.heap.size := Nat.le_trans hz3 hg4'.size
       clear ho3 hd3 hb3 hz3 hs3 hg4')
    | (at_builtin; refine wpList_append_rows _ rfl (.tmp 36) (.tmp 37) _ rfl (g + 1) 41 i0 _ 5 56 ssave_u hi0 hz0 hz1 hz2 rfl (by decide) v4 (0 + n1) ([] ++ svcs ls1) rfl ho4 w.heap.size A2 n2 c2 (svcs ls2) rfl hs4 (svcs_one _) k3 k4 hz4 ?_
       intro v5 w5 ho5 hg5'
       have hb5 := hb4.grown hg5' hb4.size (fun q hq => by have := (ho4.lt q hq).1; omega)
       have hd5 := own_far_dsk ho4 hg5' (by decide) (by decide) hd4
       obtain ⟨A5, c5, rfl, _, _⟩ := own_form2 ho5
       clear ho4 hd4 hb4 hz4 hs4 hg5'))
  rw [List.nil_append, ← svcs_append] at ho5
  rw [Nat.zero_add] at ho5
  obtain ⟨ls, hls⟩ : ∃ ls, ls1 ++ ls2 = ls := ⟨_, rfl⟩
  have HLS := Lib.hid hls
  have hlsn : ls.length = n1 + n2 := by rw [← hls, List.length_append, HN1.out, HN2.out]
  rw [hls] at ho5
  have HES := Lib.hid (show ∀ x ∈ ls, x.s.es.length = x.n ∧ x.n ≤ maxLen ∧ Ents w w.heap.size x.A x.s.es by rw [← hls]; exact HES.out)
  have HSN := Lib.hid hlsn
  have ho6 : w5.ownsRow (g + 1) 41 5 (.slice A5 ls.length c5) ls.length (svcs ls) := by rw [hlsn]; exact ho5
  clear hls hlsn k1 k2 k3 k4 hi0 hz0 hz1 hz2 HS1 HS2 ho5
  have hd6 : Dsk w5 g g (recsB (RK ls 0)) (if 0 ≤ n1 then 0 else (recsB (RK ls n1)).length) := by rw [if_pos (Nat.zero_le _), RK_zero]; exact hd5
  have HST := Lib.hid (show Outer w w5 g n1 ls A5 c5 0 none 0 from ⟨by rw [RK_zero]; exact FreeN.nil _ _ _ _, hd6, (fun r hr => by rw [RK_zero] at hr; cases hr), by rw [RK_zero]; simp [recsB_nil], by rw [RK_zero]; simp, hb5, ho6⟩)
  clear hd5 hd6 hb5 ho6
  go_loopw [12, 13, 40] (fun v z i wr => ∃ (k : Nat) (A' : Option Addr) (c' : Nat), k ≤ (n1 + n2) ∧ v = .slice A' (RK ls k).length c' ∧ z = .int .i64 ((RK ls (min k n1)).length : Int) ∧ i = .int .i64 (k : Int) ∧ Outer w wr g n1 ls A5 c5 k A' c') (fun _ _ i _ => (n1 + n2) - (intOf i).toNat)
  case atStart => exact ⟨0, none, 0, Nat.zero_le _, by rw [RK_zero]; rfl, by rw [Nat.zero_min, RK_zero]; rfl, rfl, HST.out⟩
  case round =>
    obtain ⟨k, A', c', hk, rfl, rfl, rfl, hoall, hd, hrt, hl1, hl2, hbel, horow⟩ := hrel
    by_cases hlt : k < (n1 + n2)
    · as_aux_lemma =>
      have hkl : k < ls.length := by rw [HSN.out]; exact hlt
      obtain ⟨b, off, hA5, hbl, c0, c1', c2', c3, c4⟩ := sees_save (sees_own horow) hkl
      subst hA5
      have HEX := Lib.hid (HES.out ls[k] (List.getElem_mem hkl))
      have HRK := Lib.hid (RK_succ ls k hkl)
      have HRT := Lib.hid hrt
      have HL1 := Lib.hid hl1
      have HL2 := Lib.hid hl2
      have HLT := Lib.hid hlt
      have hlt' : (k : Int) < (n1 : Int) + (n2 : Int) := by omega
      have hk20 : (k : Int) ≤ 20 := by omega
      clear hrt hl1 hl2 hk hlt
      generalize ls[k] = x at *
      obtain ⟨⟨hd_, t, v, f, es⟩, AB, nB, cB⟩ := x
      simp only at c0 c1' c2' c3 c4 HEX HRK
      obtain ⟨pre, hpre⟩ : ∃ pre, RK ls k = pre := ⟨_, rfl⟩
      rw [hpre] at hoall hd HRT HL1 HL2 HRK
      have HPRE := Lib.hid hpre
      rw [hpre]
      clear hpre
      have hA1 := Blk.new wr 41 #[.bool hd_, .int .i64 t, .int .i64 v, .int .i64 f, .slice AB nB cB]
      have hb1' := (Below.refl wr.heap.size wr).alloc (Nat.le_refl _) (.cells #[.bool hd_, .int .i64 t, .int .i64 v, .int .i64 f, .slice AB nB cB] 41)
      have HOA1 := Lib.hid (hoall.on hb1')
      have HOR1 := Lib.hid (own_on horow hb1')
      have HD1 := Lib.hid (hd.on hb1')
      have HB1 := Lib.hid (bthen hbel hb1')
      have HA1 := Lib.hid hA1
      have HGG := Lib.hid (Nat.lt_of_lt_of_le hd.lt hb1'.size)
      obtain ⟨e0, e1, e2, e3, e4⟩ := Blk5 hA1
      clear hA1 hb1' hoall horow hd hbl hbel
      go_wp2_with fail
      clear c0 c1' c2' c3 c4
      generalize hgS : wr.heap.size = gS at *
      clear hgS
      generalize wr.alloc (.cells #[.bool hd_, .int .i64 t, .int .i64 v, .int .i64 f, .slice AB nB cB] 41) = W1 at *
      have HEN := Lib.hid (fun (W : World) (hW : Below w.heap.size w W) => (show Ents W W.heap.size AB es from Sees.more (Sees.below HEX.out.2.2 hW) hW.size))
      refine (few_any ⟨hd_, t, v, f, es⟩ AB nB cB W1 (HEN.out _ HB1.out) HEX.out.1 HEX.out.2.1).mono ?_
      rintro e W2 ⟨rfl, hb2⟩
      have hA2 := HA1.out.below hb2 HA1.out.lt
      have HOA2 := Lib.hid (HOA1.out.on hb2)
      have HOR2 := Lib.hid (own_on HOR1.out hb2)
      have HB2 := Lib.hid (bthen HB1.out hb2)
      have hd2 := HD1.out.on hb2
      have HG2 := Lib.hid (Nat.lt_of_lt_of_le HGG.out hb2.size)
      clear e0 e1 e2 e3 e4 hb2 HD1 HOA1 HOR1
      cases hfew : fewF ⟨hd_, t, v, f, es⟩ with
      | false =>
        go_wp2_with fail
        go_ret
        exact ⟨rfl, HB2.out⟩
      | true =>
        have HFR := Lib.hid (few_records hfew)
        have HFT := Lib.hid (few_true hfew)
        clear hfew
        have hs13 : ∀ (z : Nat), (if k + 1 ≤ n1 then 0 else z) = if k ≤ n1 then (if k = n1 then z else 0) else z := fun z => by
          by_cases h1 : k + 1 ≤ n1
          · rw [if_pos h1, if_pos (by omega), if_neg (by omega)]
          · by_cases h2 : k = n1
            · rw [if_neg h1, if_pos (by omega), if_pos h2]
            · rw [if_neg h1, if_neg (by omega)]
        have HS13 := Lib.hid hs13
        clear hs13
        have hcase := Classical.em (k = n1)
        rcases hcase with hkn | hkn
        case' inl =>
          have hq : ((k : Int) == (n1 : Int)) = true := by rw [beq_iff_eq]; omega
          have HSY := Lib.hid (dSync2_any g g _ _ W2 hd2)
          have HA2 := Lib.hid hA2
          have HZ4 := Lib.hid (show ∀ W, Dsk W g g (recsB pre) (recsB pre).length → Dsk W g g (recsB pre) (if k + 1 ≤ n1 then 0 else (recsB (RK ls n1)).length) from fun W h => by
            rw [if_neg (by omega), ← hkn, HPRE.out]
            exact h)
          clear hd2 hA2 hkn
          go_wp2_with (go_at_call 21; refine HSY.out.mono ?_; rintro e W4 ⟨rfl, hd4', hb4', hk4'⟩; have hd4 := HZ4.out _ hd4'; have hA4 := hk4'.blk HA2.out (by decide) (by decide); obtain ⟨e0, e1, e2, e3, e4⟩ := Blk5 hA4)
          have HB4 := Lib.hid (HB2.out.trans (hb4'.mono hgw))
          have HOA4 := Lib.hid (hk4'.free HOA2.out (by decide) (by decide))
          have HOR4 := Lib.hid (hk4'.own HOR2.out (by decide) (by decide))
          have HG4 := Lib.hid (Nat.lt_of_lt_of_le HG2.out hb4'.size)
          clear hd4' hb4' hk4' HSY HA2 HZ4 hq HOA2 HOR2 HB2 HG2 HS13
        case' inr =>
          have hq : ((k : Int) == (n1 : Int)) = false := by rw [beq_eq_false_iff_ne]; omega
          have hd4 : Dsk W2 g g (recsB pre) (if k + 1 ≤ n1 then 0 else (recsB (RK ls n1)).length) := by
            rw [HS13.out]
            rw [if_neg hkn]
            exact hd2
          have hA4 := hA2
          obtain ⟨e0, e1, e2, e3, e4⟩ := Blk5 hA4
          have HB4 := HB2
          have HOA4 := HOA2
          have HOR4 := HOR2
          have HG4 := HG2
          clear hA2 hd2 hkn HOA2 HOR2 HB2 HG2 HS13
          go_wp2_with fail
          clear hq
          generalize W2 = W4 at *
        all_goals as_aux_lemma =>
          obtain ⟨s4, hs4e⟩ : ∃ s4, (if k + 1 ≤ n1 then 0 else (recsB (RK ls n1)).length) = s4 := ⟨_, rfl⟩
          have HS4 := Lib.hid hs4e
          rw [hs4e] at hd4
          have HD4 := Lib.hid hd4
          have HA4 := Lib.hid hA4
          clear hs4e hd4 hA4
          refine (refRecords_any ⟨hd_, t, v, f, es⟩ AB nB cB W4 (HEN.out _ HB4.out) HEX.out.1 (by have h1 := HFT.out.1; have h2 := HEX.out.1; (try simp only at h1); omega)).mono ?_
          rintro e W5 ⟨A6, c6, rfl, hf6, hb5⟩
          have HRM := Lib.hid (show recordsF ⟨hd_, t, v, f, es⟩ = recordsF ⟨hd_, t, v, f, es⟩ from rfl)
          obtain ⟨ms, hms⟩ : ∃ ms, recordsF ⟨hd_, t, v, f, es⟩ = ms := ⟨_, rfl⟩
          rw [hms] at hf6 HRK HFR
          have HMS := Lib.hid hms
          rw [hms]
          clear hms HRM
          have HF6 := Lib.hid hf6
          have HIN := Lib.hid (show Inner w W5 W5 g s4 W4.heap.size gS (recsB pre) #[.bool hd_, .int .i64 t, .int .i64 v, .int .i64 f, .slice AB nB cB] pre ms ls (some ⟨b, off, none⟩) c5 0 A' c' from
            ⟨by rw [List.take_zero, List.append_nil]; exact HOA4.out.on hb5, fun q hq => .inl (HOA4.out.foot_lt hq), Win.refl _ _ _, HD4.out.on hb5, HA4.out.below hb5 HA4.out.lt, own_on HOR4.out hb5, bthen HB4.out hb5, Nat.le_refl _⟩)
          have HG5 := Lib.hid (Nat.lt_of_lt_of_le HG4.out hb5.size)
          have HML := Lib.hid (show ms.length ≤ 13 from HFR.out.2.2)
          have HPL := Lib.hid (show pre.length ≤ 260 by have h1 := HL2.out; omega)
          obtain ⟨j0, hj0, hy0, hy1, hy2⟩ := info_parts rrec_row
          clear e0 e1 e2 e3 e4 hf6 hb5 HD4 HA4 HOA4 HOR4
          go_wp2_with fail
          go_loopw [12, 57] (fun va iv wr => ∃ (j : Nat) (A' : Option Addr) (c' : Nat), j ≤ ms.length ∧ va = .slice A' (pre.length + j) c' ∧ iv = .int .i64 (j : Int) ∧ Inner w W5 wr g s4 W4.heap.size gS (recsB pre) #[.bool hd_, .int .i64 t, .int .i64 v, .int .i64 f, .slice AB nB cB] pre ms ls (some ⟨b, off, none⟩) c5 j A' c') (fun _ i _ => ms.length - (intOf i).toNat)
          case atStart => exact ⟨0, A', c', Nat.zero_le _, rfl, rfl, HIN.out⟩
          case round =>
            obtain ⟨j, A7, c7, hj, rfl, rfl, hoa, hown, hwin, hdk, hbs, hor, hbel, hsz⟩ := hrel
            by_cases hjl : j < ms.length
            · as_aux_lemma =>
              obtain ⟨q, off6, hA6, d0, d1⟩ := row_in HF6.out hwin hjl
              subst hA6
              have htk : ms.take (j + 1) = ms.take j ++ [ms[j]] := List.take_succ_eq_append_getElem hjl
              have hrm := (HFR.out.1 ms[j] (List.getElem_mem hjl)).1
              have hjl' : (j : Int) < (ms.length : Int) := by omega
              have hj13 : (j : Int) ≤ 13 := by have := HML.out; omega
              have HJL := Lib.hid hjl
              generalize ms[j] = m at *
              clear hj hjl
              obtain ⟨kx, lx⟩ := m
              simp only at d0 d1
              unfold cb at d0
              have HTK := Lib.hid (show tcs (pre ++ ms.take (j + 1)) = tcs (pre ++ ms.take j) ++ [.int .u8 (kx.toNat : Int), .string (tok lx)] by rw [htk, ← List.append_assoc, tcs_append]; rfl)
              have hb1 := (Below.refl wr.heap.size wr).alloc (Nat.le_refl _) (.cells #[.int .u8 (kx.toNat : Int), .string (tok lx)] 46)
              have hP := Blk.new wr 46 #[.int .u8 (kx.toNat : Int), .string (tok lx)]
              have q0 : (wr.alloc (.cells #[.int .u8 (kx.toNat : Int), .string (tok lx)] 46)).cell? ⟨wr.heap.size, 0, none⟩ = some (.int .u8 (kx.toNat : Int)) := by rw [hP.cell]; rfl
              have q1 : (wr.alloc (.cells #[.int .u8 (kx.toNat : Int), .string (tok lx)] 46)).cell? ⟨wr.heap.size, 1, none⟩ = some (.string (tok lx)) := by rw [hP.cell]; rfl
              have HOA := Lib.hid hoa
              have HOW := Lib.hid hown
              have HWI := Lib.hid hwin
              have HDK := Lib.hid hdk
              have HBS := Lib.hid hbs
              have HOR := Lib.hid hor
              have HBE := Lib.hid hbel
              have HSZ := Lib.hid hsz
              have HB1 := Lib.hid hb1
              have HP1 := Lib.hid hP
              clear hoa hown hwin hdk hbs hor hbel hsz hb1 hP htk
              go_wp2_with fail
              generalize wr.alloc (.cells #[.int .u8 (kx.toNat : Int), .string (tok lx)] 46) = W6 at *
              refine (refRight_any (kx, lx) W6).mono ?_
              rintro e W7 ⟨rfl, hW7⟩
              rw [rightB_of hrm]
              have HB7 := Lib.hid (show Below wr.heap.size wr W7 by rw [hW7]; exact HB1.out.alloc HB1.out.size _)
              have hP7 : Blk W7 wr.heap.size 46 #[.int .u8 (kx.toNat : Int), .string (tok lx)] := by rw [hW7]; exact HP1.out.alloc _
              have r0 : W7.cell? ⟨wr.heap.size, 0, none⟩ = some (.int .u8 (kx.toNat : Int)) := by rw [hP7.cell]; rfl
              have r1 : W7.cell? ⟨wr.heap.size, 1, none⟩ = some (.string (tok lx)) := by rw [hP7.cell]; rfl
              have hb8 := HB7.out.alloc HB7.out.size (.cells #[.int .u8 (kx.toNat : Int), .string (tok lx)] 46)
              have HOA8 := Lib.hid (HOA.out.on hb8)
              have HDK8 := Lib.hid (HDK.out.on hb8)
              have HBS8 := Lib.hid (HBS.out.below hb8 HBS.out.lt)
              have HOR8 := Lib.hid (own_on HOR.out hb8)
              have HBE8 := Lib.hid (bthen HBE.out hb8)
              have HWI8 := Lib.hid (HWI.out.trans (Win.below hb8 HSZ.out))
              have HB8 := Lib.hid hb8
              have hn8 := sees_new W7 #[.int .u8 (kx.toNat : Int), .string (tok lx)] 46
              have hm2 : pre.length + j + 1 ≤ maxLen := by unfold maxLen; have := HPL.out; omega
              have hm3 : (pre.length + j + 1) * 24 ≤ 140737488355328 := by have := HPL.out; omega
              have hz8 : g + 1 ≤ (W7.alloc (.cells #[.int .u8 (kx.toNat : Int), .string (tok lx)] 46)).heap.size := by have h1 := HB8.out.size; have h2 := HSZ.out; have h3 := HG5.out; omega
              clear q0 q1 d0 d1 hW7 hP7 hb8 hrm HP1 HB1
              go_wp2_with (at_builtin; go_loud (
                refine wpList_append_freeN (sz := 2) _ rfl (.tmp 64) (.tmp 66) _ rfl (g + 1) 46 j0 _ 24 srrec_u hj0 hy0 hy1 hy2 rfl (by decide) A7 (pre.length + j) c7 (tcs (pre ++ ms.take j)) rfl HOA8.out _ _ 1 1 [.int .u8 (kx.toNat : Int), .string (tok lx)] rfl hn8 (by simp [Value.oneCell']) hm2 hm3 hz8 ?_
                intro A9 c9 W9 ha
                have HF9 := Lib.hid ha.1
                have HD9 := Lib.hid (HOA8.out.far_dsk ha.2.1 (by decide) (by decide) HDK8.out)
                have HS9 := Lib.hid (HOA8.out.far_blk ha.2.1 HBS8.out (by decide))
                have HR9 := Lib.hid (HOA8.out.far_own ha.2.1 HOR8.out (by decide))
                have HB9 := Lib.hid (ha.below HOA8.out HBE8.out HBE8.out.size (by have h1 := HBE.out.size; have h3 := HGW.out; omega))
                have HZ9 := Lib.hid (show W5.heap.size ≤ W9.heap.size by have h1 := ha.2.1.size; have h2 := HB8.out.size; have h3 := HSZ.out; omega)
                have HW9 := Lib.hid (show Win W4.heap.size W5.heap.size W5 W9 from HWI8.out.trans (fun i hi1 hi2 => ha.2.1.block i (by have h2 := HB8.out.size; have h3 := HSZ.out; omega) (fun e => by rcases HOW.out i e.symm with h | h <;> omega)))
                have HO9 := Lib.hid (show ∀ q, foot A9 c9 = some q → q < W4.heap.size ∨ W5.heap.size ≤ q from fun q hq => by
                  rcases ha.2.2 with h | ⟨k9, h, hk9⟩
                  · exact HOW.out q (h ▸ hq)
                  · rw [hq] at h
                    injection h with h
                    exact .inr (by have h2 := HB8.out.size; have h3 := HSZ.out; omega))
                clear ha hn8 hm2 hm3 hz8))
              go_roundw
              case rel => exact ⟨j + 1, A9, c9, HJL.out, rfl, by go_num, by rw [HTK.out]; exact HF9.out, HO9.out, HW9.out, HD9.out, HS9.out, HR9.out, HB9.out, HZ9.out⟩
              case measure => have := HJL.out; simp [intOf]; omega
            · as_aux_lemma =>
              have hjm : j = ms.length := by omega
              have hjl' : ¬ (j : Int) < (ms.length : Int) := by omega
              subst hjm
              rw [List.take_length] at hoa
              have hrs := writeL_right ms (fun r hr => (HFR.out.1 r hr).1) (recsB pre) (by have h1 := HL1.out; have h2 := HFR.out.2.1; omega)
              rw [← HMS.out] at hrs
              have HW := Lib.hid (hwrite_k g g s4 (recsB pre) ⟨hd_, t, v, f, es⟩ AB nB cB wr hdk (by have h1 := HG5.out; omega) (by have h1 := HL1.out; omega) (HEN.out _ hbel) HEX.out.1 (by have h1 := HFT.out.1; have h2 := HEX.out.1; (try simp only at h1); omega) (fun x hx => by have := HFT.out.2 x hx; omega))
              rw [hrs, HMS.out] at HW
              simp only at HW
              obtain ⟨e0, e1, e2, e3, e4⟩ := Blk5 hbs
              have HOA := Lib.hid hoa
              have HOR := Lib.hid hor
              have HBE := Lib.hid hbel
              have hcase := Classical.em (k < n1)
              have hk20' : (k : Int) ≤ 20 := hk20
              clear hrs hoa hown hwin hdk hbs hor hbel hsz hj hjl
              rcases hcase with hkn | hkn
              case' inl =>
                have hkn' : (k : Int) < (n1 : Int) := by omega
                have HZ := Lib.hid (show Value.int .i64 ((pre.length : Int) + (ms.length : Int)) = .int .i64 ((RK ls (min (k + 1) n1)).length : Int) by rw [Nat.min_eq_left (by omega), HRK.out, List.length_append]; rfl)
                clear hkn
                go_wp2_with fail
                clear hkn'
              case' inr =>
                have hkn' : ¬ (k : Int) < (n1 : Int) := by omega
                have HZ := Lib.hid (show Value.int .i64 ((RK ls (min k n1)).length : Int) = .int .i64 ((RK ls (min (k + 1) n1)).length : Int) by rw [Nat.min_eq_right (by omega), Nat.min_eq_right (by omega)])
                clear hkn
                go_wp2_with fail
                clear hkn'
              all_goals
                refine HW.out.mono ?_
                rintro e W8 ⟨rfl, hd8, hb8, hk8⟩
                have HF9 := Lib.hid (hk8.free HOA.out (by decide) (by decide))
                have HR9 := Lib.hid (hk8.own HOR.out (by decide) (by decide))
                have HB9 := Lib.hid (HBE.out.trans (hb8.mono HGW.out))
                have HD9 := Lib.hid hd8
                clear hd8 hb8 hk8 e0 e1 e2 e3 e4
                go_wp2_with fail
                go_roundw
                case rel =>
                  have h1 := HL1.out
                  have h2 := HFR.out.2.1
                  have h3 := HL2.out
                  have h4 := HFR.out.2.2
                  have h5 : (RK ls (k + 1)).length = pre.length + ms.length := by rw [HRK.out, List.length_append]
                  refine ⟨k + 1, A7, c7, HLT.out, by rw [h5], HZ.out, by go_num, ?_⟩
                  unfold Outer
                  rw [h5, HRK.out, HS4.out, recsB_append]
                  refine ⟨HF9.out, HD9.out, ?_, by rw [List.length_append]; omega, by omega, HB9.out, HR9.out⟩
                  intro r hr
                  rcases List.mem_append.1 hr with h | h
                  · exact HRT.out r h
                  · exact (HFR.out.1 r h).1
                case measure => have := HLT.out; simp [intOf]; omega
    · as_aux_lemma =>
      obtain rfl : k = n1 + n2 := by omega
      have hlt' : ¬ ((n1 : Int) + (n2 : Int) < (n1 : Int) + (n2 : Int)) := by omega
      have hra := RK_all ls1 ls2
      rw [HN1.out, HN2.out, HLS.out] at hra
      have hm20 : n2 = 0 → (ls2.flatMap fun x => recordsF x.s) = [] := fun h => by
        have h9 : ls2 = [] := List.eq_nil_of_length_eq_zero (by rw [HN2.out]; exact h)
        rw [h9]
        rfl
      obtain ⟨ms1, hms1⟩ : ∃ m, RK ls n1 = m := ⟨_, rfl⟩
      obtain ⟨ms2, hms2⟩ : ∃ m, (ls2.flatMap fun x => recordsF x.s) = m := ⟨_, rfl⟩
      rw [hms2] at hm20
      rw [hms1, hms2] at hra
      rw [hra] at hoall hd hrt hl1 hl2
      rw [hms1, recsB_append] at hd
      rw [recsB_append] at hl1
      rw [show min (n1 + n2) n1 = n1 from Nat.min_eq_right (by omega), hra, hms1]
      have hr1 : ∀ r ∈ ms1, RightM r := fun r hr => hrt r (List.mem_append_left _ hr)
      have hr2 : ∀ r ∈ ms2, RightM r := fun r hr => hrt r (List.mem_append_right _ hr)
      have hll : (recsB ms1 ++ recsB ms2).length ≤ 1048576 := by omega
      obtain ⟨kk, en, hkk, hrd, hen, hse⟩ := crash_reads ms1 ms2 hr1 hr2 keep at_ y
      have hcl := crash_len (recsB ms1 ++ recsB ms2) (recsB ms1).length keep at_ y
      obtain ⟨L, hL⟩ : ∃ L, ms1.length + kk = L := ⟨_, rfl⟩
      rw [hL] at hrd
      have hL1 : ms1.length ≤ L := by omega
      have hL2 : L ≤ (ms1 ++ ms2).length := by rw [List.length_append]; omega
      have hgl2 := hd.lt
      have HRD := Lib.hid hrd
      have HEN := Lib.hid hen
      have HSE := Lib.hid hse
      have HCL := Lib.hid (Nat.le_trans hcl hll)
      have HMB := Lib.hid (show ∀ r ∈ ms1 ++ ms2, r.2.length ≤ 1073741824 from fun r hr => by have := (hrt r hr).2; omega)
      have HM260 := Lib.hid (show (ms1 ++ ms2).length ≤ 260 by omega)
      have HLL := Lib.hid (show ms1.length ≤ L ∧ L ≤ (ms1 ++ ms2).length from ⟨hL1, hL2⟩)
      have HCR := Lib.hid (fun W (h : Dsk W g g (recsB ms1 ++ recsB ms2) (recsB ms1).length) => dCrash2_any g g (recsB ms1).length (recsB ms1 ++ recsB ms2) keep at_ y W h hll)
      generalize crashF (recsB ms1 ++ recsB ms2) (recsB ms1).length keep at_ y = C at *
      have hcase := Classical.em (n2 = 0)
      have HOA := Lib.hid hoall
      have HM20 := Lib.hid hm20
      clear hl1 hl2 hoall hrt hra hms1 hms2 hr1 hr2 hkk hrd hen hse hcl hL hll horow hm20 HES HSN HN1 HN2 HLS HST
      generalize hMM : ms1 ++ ms2 = MS at *
      have HMM := Lib.hid hMM
      clear hMM
      rcases hcase with h2 | h2
      case' inl =>
        have hq : ((n2 : Int) == 0) = true := by rw [beq_iff_eq]; omega
        have HSY := Lib.hid (dSync2_any g g _ _ wr hd)
        have HZ4 := Lib.hid (show ∀ W, Dsk W g g (recsB ms1 ++ recsB ms2) (recsB ms1 ++ recsB ms2).length → Dsk W g g (recsB ms1 ++ recsB ms2) (recsB ms1).length from fun W h => by
          rw [HM20.out h2, recsB_nil, List.append_nil] at h ⊢
          exact h)
        clear hd h2
        go_wp2_with (go_at_call 21; refine HSY.out.mono ?_; rintro e W1 ⟨rfl, hd1', hb1', hk1'⟩; have hd1 := HZ4.out _ hd1')
        have HOA1 := Lib.hid (hk1'.free HOA.out (by decide) (by decide))
        have hb1 := hbel.trans (hb1'.mono hgw)
        have hg1 := Nat.lt_of_lt_of_le hgl2 hb1'.size
        clear hd1' hb1' hk1' HSY HZ4 hq hbel hgl2 HOA
      case' inr =>
        have hq : ((n2 : Int) == 0) = false := by rw [beq_eq_false_iff_ne]; omega
        rw [if_neg (by omega)] at hd
        have hd1 := hd
        have hb1 := hbel
        have hg1 := hgl2
        have HOA1 := HOA
        clear hd hbel hgl2 HOA h2
        go_wp2_with fail
        clear hq
        generalize wr = W1 at *
      all_goals as_aux_lemma =>
        refine (HCR.out W1 hd1).mono ?_
        rintro e W2 ⟨rfl, hd2, hb2', hk2⟩
        have HOA2 := Lib.hid (hk2.free HOA1.out (by decide) (by decide))
        have HB2 := Lib.hid (hb1.trans (hb2'.mono hgw))
        have HG2 := Lib.hid (Nat.lt_of_lt_of_le hg1 hb2'.size)
        have HD2 := Lib.hid hd2
        clear hd1 hb1 hg1 hb2' hk2 HCR HOA1 hd2
        go_wp2_with fail
        refine (hrecover_k g g (recsB ms1).length C W2 HD2.out (by have := HG2.out; omega) HCL.out (by rw [HEN.out]; exact HSE.out)).mono ?_
        rintro e W3 ⟨hpo, hd3, hb3', hk3⟩
        rw [HRD.out] at hpo
        obtain ⟨gs, Ag, ng, cg, z, rfl, hge, hgl', hgn, hg0, hg1'⟩ := got_out hpo
        obtain ⟨o, ho⟩ : ∃ o, playF (MS.take L) = o := ⟨_, rfl⟩
        rw [ho] at hg0 hg1'
        have HO := Lib.hid ho
        have HG0 := Lib.hid hg0
        have HG1 := Lib.hid hg1'
        have HGL := Lib.hid hgl'
        have HGN := Lib.hid hgn
        have hbg := (Below.refl W3.heap.size W3).alloc (Nat.le_refl _) (.cells #[.int .i64 gs.t, .int .i64 gs.v, .slice Ag ng cg] 25)
        have HGB := Lib.hid (Blk.new W3 25 #[.int .i64 gs.t, .int .i64 gs.v, .slice Ag ng cg])
        have HGE := Lib.hid (show Ents _ _ Ag gs.es from Sees.on hge hbg)
        have HB4 := Lib.hid (bthen (HB2.out.trans (hb3'.mono hgw)) hbg)
        have HOA4 := Lib.hid ((hk3.free HOA2.out (by decide) (by decide)).on hbg)
        clear hpo ho hg0 hg1' hge hgl' hgn hbg hd3 hb3' hk3 HOA2 HD2 HB2 HRD HEN HSE HCL
        go_wp2_with fail
        generalize W3.heap.size = gG at *
        generalize W3.alloc (.cells #[.int .i64 gs.t, .int .i64 gs.v, .slice Ag ng cg] 25) = W4 at *
        go_loopw [20] (fun iv wr => ∃ k : Nat, ms1.length ≤ k ∧ k ≤ L ∧ iv = .int .i64 (k : Int) ∧ Below W4.heap.size W4 wr) (fun iv _ => L + 1 - (intOf iv).toNat)
        case atStart => exact ⟨ms1.length, Nat.le_refl _, HLL.out.1, rfl, Below.refl _ _⟩
        case round =>
          obtain ⟨k, hk1, hk2, rfl, hbel⟩ := hrel
          have hkM : k ≤ MS.length := Nat.le_trans hk2 HLL.out.2
          have hkM' : (k : Int) ≤ (MS.length : Int) := by omega
          have hk260 : (k : Int) ≤ 260 := by have := HM260.out; omega
          have hoa := HOA4.out.on hbel
          have hsl := fun W => rows_upto A' MS.length c' k (Nat.le_trans hkM hoa.2.1) W
          have HTK := Lib.hid (free_toks hoa rfl hkM)
          have HTL := Lib.hid (show (MS.take k).length = k by rw [List.length_take]; omega)
          have HTB := Lib.hid (show ∀ r ∈ MS.take k, r.2.length ≤ 1073741824 from fun r hr => HMB.out r (List.mem_of_mem_take hr))
          have HBE := Lib.hid hbel
          have HK := Lib.hid (And.intro hk1 hk2)
          clear hoa hk1 hk2 hkM hbel
          go_wp2_with fail
          clear hsl
          refine (refPlay_any A' k c' (MS.take k) wr HTK.out HTL.out (by omega) HTB.out).mono ?_
          intro e W5 hw
          obtain ⟨h, Ah, nh, ch, q, rfl, hhe, hhl, hhn, hh0, hh1, hb5⟩ := want_ans hw
          obtain ⟨ok, hok⟩ : ∃ ok, playF (MS.take k) = ok := ⟨_, rfl⟩
          rw [hok] at hh0 hh1
          have hlast : k = L → ok = o := fun e => by rw [← hok, e]; exact HO.out
          have hbg := (Below.refl W5.heap.size W5).alloc (Nat.le_refl _) (.cells #[.int .i64 h.t, .int .i64 h.v, .slice Ah nh ch] 25)
          have hb46 := bthen HBE.out (bthen hb5 hbg)
          have HHB := Lib.hid (Blk.new W5 25 #[.int .i64 h.t, .int .i64 h.v, .slice Ah nh ch])
          have HHE := Lib.hid (show Ents _ _ Ah h.es from Sees.on hhe hbg)
          obtain ⟨g0, g1, g2⟩ := Blk3 (HGB.out.below hb46 HGB.out.lt)
          obtain ⟨h0, h1, h2⟩ := Blk3 HHB.out
          have HGE6 := Lib.hid (show Ents _ _ Ag gs.es from Sees.on HGE.out hb46)
          have HB46 := Lib.hid hb46
          have HB6 := Lib.hid (bthen HB4.out hb46)
          have HHL := Lib.hid hhl
          clear hw hok hhe hhl hhn hb5 hbg hb46 hkM'
          cases o with
          | none =>
            obtain ⟨rfl, hg⟩ := HG0.out rfl
            subst hg
            simp only at g0 g1 g2
            cases q with
            | false =>
              clear hh0 hh1 hlast
              go_wp2_with fail
              go_ret
              exact ⟨rfl, HB6.out⟩
            | true =>
              have HKL := Lib.hid (show k + 1 ≤ L by
                have h9 := HK.out.2
                have h8 : k ≠ L := fun e => by have := hh0 (hlast e); cases this
                omega)
              clear hh0 hh1 hlast
              go_wp2_with fail
              go_roundw
              case rel => exact ⟨k + 1, Nat.le_succ_of_le HK.out.1, HKL.out, by go_num, HB46.out⟩
              case measure => have := HKL.out; simp [intOf]; omega
          | some s =>
            obtain ⟨rfl, hg⟩ := HG1.out s rfl
            subst hg
            cases q with
            | false =>
              have HKL := Lib.hid (show k + 1 ≤ L by
                have h9 := HK.out.2
                have h8 : k ≠ L := fun e => by have := (hh1 _ (hlast e)).1; cases this
                omega)
              clear hh0 hh1 hlast
              go_wp2_with fail
              go_roundw
              case rel => exact ⟨k + 1, Nat.le_succ_of_le HK.out.1, HKL.out, by go_num, HB46.out⟩
              case measure => have := HKL.out; simp [intOf]; omega
            | true =>
              have HSA := Lib.hid (same6_any gs h Ag Ah ng nh cg ch _ HGE6.out HGL.out HHE.out HHL.out (by have := HGN.out; omega))
              have HEQ := Lib.hid (show k = L → gs = h from fun e => ((hh1 gs (hlast e)).2).symm)
              clear hh0 hh1 hlast
              go_wp2_with fail
              refine HSA.out.mono ?_
              rintro e W7 ⟨r, rfl, hr, hb7⟩
              have HB47 := Lib.hid (bthen HB46.out hb7)
              have HB7 := Lib.hid (bthen HB6.out hb7)
              cases r with
              | true =>
                clear hr hb7 g0 g1 g2 h0 h1 h2
                go_wp2_with fail
                go_ret
                exact ⟨rfl, HB7.out⟩
              | false =>
                have HKL := Lib.hid (show k + 1 ≤ L by
                  have h9 := HK.out.2
                  have h8 : k ≠ L := fun e => by have := hr (HEQ.out e); cases this
                  omega)
                clear hr hb7 g0 g1 g2 h0 h1 h2
                go_wp2_with fail
                go_roundw
                case rel => exact ⟨k + 1, Nat.le_succ_of_le HK.out.1, HKL.out, by go_num, HB47.out⟩
                case measure => have := HKL.out; simp [intOf]; omega

set_option maxRecDepth 100000 in
theorem lifted (os : Os) (started : os.Started) (H : Type) (enc : TypeId × Value → H) :
    ReturnsInHanded {} Try.checked os 5 .any (Rows.hardCrashSpec.pre6 enc Try.prog Try.f5 Rows.hardCrashRow.domain false) (Rows.hardCrashSpec.post enc Try.prog Try.f5 false true false false) := by
  refine returnsInHanded_of_change (C := Try.checked) own started (by kernel_rfl) Try.func5
    (ChangeSpec.witness6 (enc := enc) (C := Try.checked) false ⟨#[], #[.slice none 0 0, .slice none 0 0, .int .i64 0, .int .i64 0, .int .u8 0], []⟩ 8 (by kernel_rfl) (by kernel_rfl) (by kernel_rfl) (by kernel_rfl)) ?_
  intro W base args ds gs before hval0 hW hcnd _
  have hval : ∀ (j : Nat) t v, Try.f5.params[j]? = some t → args[j]? = some v → Value.okWide Try.prog W .any base t v := hval0
  have hW' := hW
  obtain ⟨p, q, hA0, hV, rfl, hfz, hnd⟩ := hW
  have hA : DataW.TrodAll enc Try.prog W 0 (fun _ => true) true Try.f5.params.toList args.toList ds p := hA0
  rw [Try.params5] at hA hval
  obtain ⟨v0, vs0, d0, ds0, p0, q0, hargs, rfl, rfl, h0, r0⟩ := trodAll_cons hA
  obtain ⟨v1, vs1, d1, ds1, p1, q1, rfl, rfl, rfl, h1, r1⟩ := trodAll_cons r0
  obtain ⟨v2, vs2, d2, ds2, p2, q2, rfl, rfl, rfl, h2, r2⟩ := trodAll_cons r1
  obtain ⟨v3, vs3, d3, ds3, p3, q3, rfl, rfl, rfl, h3, r3⟩ := trodAll_cons r2
  obtain ⟨v4, vs4, d4, ds4, p4, q4, rfl, rfl, rfl, h4, r4⟩ := trodAll_cons r3
  obtain ⟨rfl, rfl, rfl⟩ := trodAll_nil r4
  obtain rfl : args = #[v0, v1, v2, v3, v4] := by cases args; simp_all
  obtain ⟨rfl, rfl⟩ := trodVars_none hV
  obtain ⟨a0, len0, cap0, rfl⟩ := okWide_slice Try.underlying47 (hval 0 47 v0 rfl rfl)
  obtain ⟨a1, len1, cap1, rfl⟩ := okWide_slice Try.underlying47 (hval 1 47 v1 rfl rfl)
  have k0 := h0
  have lt0 : ∀ x ∈ p0, x.block < W.heap.size := by obtain ⟨m, hm⟩ := k0; exact DataW.trod_lt m _ _ _ hm
  have k1 := h1
  have lt1 : ∀ x ∈ p1, x.block < W.heap.size := by obtain ⟨m, hm⟩ := k1; exact DataW.trod_lt m _ _ _ hm
  obtain ⟨i2, rfl, rfl, rfl, w2⟩ := open_int Try.underlying3 (hval 2 3 v2 rfl rfl) h2
  obtain ⟨i3, rfl, rfl, rfl, w3⟩ := open_int Try.underlying3 (hval 3 3 v3 rfl rfl) h3
  obtain ⟨i4, rfl, rfl, rfl, w4⟩ := open_int Try.underlying5 (hval 4 5 v4 rfl rfl) h4
  obtain ⟨m0, h0⟩ := h0
  obtain ⟨m1, h1⟩ := h1
  obtain ⟨hl0, hc0, f1, hs0⟩ := open_saves h0
  obtain ⟨hl1, hc1, f2, hs1⟩ := open_saves h1
  obtain ⟨y, hy⟩ : ∃ y : UInt8, i4 = (y.toNat : Int) := ⟨UInt8.ofNat i4.toNat, by have := bounds_u8 w4; rw [UInt8.toNat_ofNat']; omega⟩
  subst hy
  clear hA0 hval0
  refine (walk a0 len0 cap0 f1 a1 len1 cap1 f2 i2 i3 y W hs0 hl0 hc0 hs1 hl1 hc1).mono fun e W' ⟨he, bel⟩ => ?_
  subst he
  exact ⟨_, rfl, _, _, _, [], _, [], hW', trodAll_mk1 (shut_bool Try.underlying4 _), (trodAll_cons_mk (Below.trod laidOut (by kernel_rfl) (of_decide_eq_true (by kernel_rfl)) k0 bel lt0) (trodAll_cons_mk (Below.trod laidOut (by kernel_rfl) (of_decide_eq_true (by kernel_rfl)) k1 bel lt1) (trodAll_cons_mk (shut_int Try.underlying3 w2) (trodAll_cons_mk (shut_int Try.underlying3 w3) (trodAll_cons_mk (shut_int Try.underlying5 w4) trodAll_mk0))))), rfl, bel.frame _, fun h => by cases h⟩

theorem over : Rows.hardCrashRow.holds Try.pinned (OpenSpec.ofChange Rows.hardCrashSpec) :=
  OpenClaim.holds_of_wide 5 Try.f5 rfl rfl rfl rfl rfl rfl rfl ⟨rfl, rfl, rfl, rfl, rfl⟩ rfl rfl rfl rfl rfl (by kernel_rfl) Try.func5 (by kernel_rfl)
    (of_decide_eq_true (by kernel_rfl)) (by unfold Func.isWrapper; first | (rw [if_pos (by decide +kernel)]; kernel_rfl) | (rw [if_neg (by decide +kernel)]; exact ⟨rfl, rfl⟩))
    (fun os started H enc _ => lifted os started H enc)

theorem proved : Rows.HardCrashSaid :=
  over
#print axioms proved
end Go.Proofs.Ytmhgbpgbnfdokaa.hardCrash
