/- WalCrash: behind a crash all synced records are there, and of those behind some of the first ones, whole; recovered again it is as it was. For every input, without a condition. -/
import Derived.Test.YtjmpokaifnhnmaaRows
import Derived.Test.YtjmpokaifnhnmaaWcM
import Derived.ProofKit
import Derived.OpenShut
import Derived.Deep.CutBlock
namespace Go.Proofs.Ytjmpokaifnhnmaa.walCrash
open Go.ChangeShapes Go.WideShapes Go.ChangeAt Go.RowKit Go.Deep
set_option linter.unusedVariables false

theorem own : ownKnob Try.prog.godebug = none := by kernel_rfl
theorem laidOut : laidOutB Try.prog = true := by kernel_rfl

/-- so many records have been appended -/
def Done (w wr : World) (g n1 N : Nat) (rs : List RecP) (A3 : Option Addr) (c3 : Nat) (k : Nat) (A' : Option Addr) (c' : Nat) : Prop :=
  wr.ownsRow (g + 1) 37 2 (.slice A' k c') k (tcs ((rs.map RecP.m).take k)) ∧
  Dsk wr g g (recsB ((rs.map RecP.m).take k)) (if k ≤ n1 then 0 else (recsB ((rs.map RecP.m).take n1)).length) ∧
  (∀ r ∈ (rs.map RecP.m).take k, RightM r) ∧ (recsB ((rs.map RecP.m).take k)).length ≤ 309 * k ∧ Below w.heap.size w wr ∧
  wr.ownsRow (g + 1) 24 2 (.slice A3 N c3) N (rcs rs)
theorem rightB_of {r : RecM} (h : RightM r) : rightB r = true := by unfold rightB; simp [h.1, h.2]
theorem rightB_not {r : RecM} (h : ¬ RightM r) : rightB r = false := by
  unfold rightB
  rw [Bool.and_eq_false_iff, decide_eq_false_iff_not, decide_eq_false_iff_not]
  by_cases hk : r.1 = 0
  · exact .inl (fun h' => h' hk)
  · exact .inr (fun h' => h ⟨hk, h'⟩)

set_option maxRecDepth 100000 in
set_option maxHeartbeats 6400000 in
theorem walk (A1 : Option Addr) (c1 : Nat) (rs1 : List RecP) (n1 : Nat) (A2 : Option Addr) (c2 : Nat) (rs2 : List RecP) (n2 : Nat) (keep at_ : Int) (y : UInt8) (w : World) (hr1 : Recs w w.heap.size A1 rs1) (hn1 : rs1.length = n1) (hc1 : n1 ≤ c1) (hm1 : c1 ≤ maxLen)
    (hr2 : Recs w w.heap.size A2 rs2) (hn2 : rs2.length = n2) (hc2 : n2 ≤ c2) (hm2 : c2 ≤ maxLen) :
    Calls Try.prog 4 #[.slice A1 n1 c1, .slice A2 n2 c2, .int .i64 keep, .int .i64 at_, .int .u8 (y.toNat : Int)] w fun e w' => e = .returned (.bool true) ∧ Below w.heap.size w w' := by
  have hm19 : c1 ≤ 9223372036854775807 := hm1
  have hm29 : c2 ≤ 9223372036854775807 := hm2
  by_cases hg1 : 20 < n1
  · have hg2 : (20 : Int) < (n1 : Int) := by omega
    go_enter Try.func4, Try.ntmps4
    go_wp2_with fail
    refine (fixed5_any _).mono ?_
    rintro e w1 ⟨rfl, hb1⟩
    go_wp2_with fail
    go_ret
    exact ⟨rfl, hb1⟩
  by_cases hg3 : 20 < n2
  · have hg2 : ¬ (20 : Int) < (n1 : Int) := by omega
    have hg4 : (20 : Int) < (n2 : Int) := by omega
    go_enter Try.func4, Try.ntmps4
    go_wp2_with fail
    refine (fixed5_any _).mono ?_
    rintro e w1 ⟨rfl, hb1⟩
    go_wp2_with fail
    go_ret
    exact ⟨rfl, hb1⟩
  have hg2 : ¬ (20 : Int) < (n1 : Int) := by omega
  have hg4 : ¬ (20 : Int) < (n2 : Int) := by omega
  have hq1 : n1 ≤ 20 := by omega
  have hq2 : n2 ≤ 20 := by omega
  obtain ⟨i0, hi0, hz0, hz1, hz2⟩ := info_parts rec_row
  have HN1 := Lib.hid hn1
  have HN2 := Lib.hid hn2
  have HR1 := Lib.hid hr1
  have HR2 := Lib.hid hr2
  clear hr1 hr2 hn1 hn2 hm1 hm2 hm19 hm29 hg1 hg3
  go_enter Try.func4, Try.ntmps4
  go_wp2_with fail
  refine (fixed5_any _).mono ?_
  rintro e w1 ⟨rfl, hb1⟩
  go_wp2_with fail
  refine (dNew_any w1).mono ?_
  rintro e w2 ⟨rfl, hd2, hb2⟩
  have hbw := bthen hb1 hb2
  have hgw := hb1.size
  clear hb1 hb2
  generalize w1.heap.size = g at *
  have hgl := hd2.lt
  -- the row of all records
  have ho3 : (w2.alloc (.cells #[] 24)).ownsRow (g + 1) 24 2 (.slice (some ⟨w2.heap.size, 0, none⟩) 0 0) 0 [] := World.ownsRow_made w2 _ 0 hgl (by decide) rfl
  have hd3 := hd2.alloc (.cells #[] 24)
  have hb3 := hbw.alloc hbw.size (.cells #[] 24)
  have hz3 : g + 1 ≤ (w2.alloc (.cells #[] 24)).heap.size := by simp; omega
  have hs3 : Sees (w2.alloc (.cells #[] 24)) w.heap.size A1 (n1 * 2) (rcs rs1) := by have := HR1.out.1.below hb3; rwa [HN1.out] at this
  have k1 : 0 + n1 ≤ maxLen := by unfold maxLen; omega
  have k2 : (0 + n1) * 32 ≤ 140737488355328 := by omega
  have k3 : 0 + n1 + n2 ≤ maxLen := by unfold maxLen; omega
  have k4 : (0 + n1 + n2) * 32 ≤ 140737488355328 := by omega
  clear hd2 hbw
  go_wp2_with (first
    | (at_builtin; refine wpList_append_rows _ rfl (.tmp 35) (.tmp 36) _ rfl (g + 1) 24 i0 _ 2 32 srec_u hi0 hz0 hz1 hz2 rfl (by decide) _ 0 [] rfl ho3 w.heap.size A1 n1 c1 (rcs rs1) rfl hs3 (rcs_one _) k1 k2 hz3 ?_
       intro v4 w4 ho4 hg4'
       have hb4 := hb3.grown hg4' hb3.size (fun q hq => by have := (ho3.lt q hq).1; omega)
       have hd4 := own_far_dsk ho3 hg4' (by decide) (by decide) hd3
       have hs4 : Sees w4 w.heap.size A2 (n2 * 2) (rcs rs2) := (by have := HR2.out.1.below hb4; rwa [HN2.out] at this)
       have hz4 : g + 1 ≤ w4.heap.size := Nat.le_trans hz3 hg4'.size
       clear ho3 hd3 hb3 hz3 hs3 hg4')
    | (at_builtin; refine wpList_append_rows _ rfl (.tmp 37) (.tmp 38) _ rfl (g + 1) 24 i0 _ 2 32 srec_u hi0 hz0 hz1 hz2 rfl (by decide) v4 (0 + n1) ([] ++ rcs rs1) rfl ho4 w.heap.size A2 n2 c2 (rcs rs2) rfl hs4 (rcs_one _) k3 k4 hz4 ?_
       intro v5 w5 ho5 hg5'
       have hb5 := hb4.grown hg5' hb4.size (fun q hq => by have := (ho4.lt q hq).1; omega)
       have hd5 := own_far_dsk ho4 hg5' (by decide) (by decide) hd4
       obtain ⟨A5, c5, rfl, _, _⟩ := own_form2 ho5
       clear ho4 hd4 hb4 hz4 hs4 hg5'))
  rw [List.nil_append, ← rcs_append] at ho5
  rw [Nat.zero_add] at ho5
  have hrl : (rs1 ++ rs2).length = n1 + n2 := by rw [List.length_append, HN1.out, HN2.out]
  have hrs : ∀ r ∈ rs1 ++ rs2, Sees w w.heap.size r.A r.n (cbs r.l) := fun r hr => by
    rcases List.mem_append.1 hr with h | h
    · exact HR1.out.2 r h
    · exact HR2.out.2 r h
  obtain ⟨rs, hrse⟩ : ∃ rs, rs1 ++ rs2 = rs := ⟨_, rfl⟩
  have HRSE := Lib.hid hrse
  rw [hrse] at ho5 hrl hrs
  have HRN := Lib.hid hrl
  have HRS := Lib.hid hrs
  clear hrse hrl hrs HR1 HR2 k1 k2 k3 k4 hi0 hz0 hz1 hz2
  have hd6 : Dsk w5 g g (recsB ((rs.map RecP.m).take 0)) (if 0 ≤ n1 then 0 else (recsB ((rs.map RecP.m).take n1)).length) := by rw [if_pos (Nat.zero_le _)]; exact hd5
  have HST := Lib.hid (show Done w w5 g n1 (n1 + n2) rs A5 c5 0 none 0 from ⟨World.ownsRow_nil _ _ _ _, hd6, fun r hr => by simp at hr, by simp [recsB_nil], hb5, ho5⟩)
  clear hd5 hd6 hb5 ho5
  go_loopw [12, 41] (fun v i wr => ∃ (k : Nat) (A' : Option Addr) (c' : Nat), k ≤ (n1 + n2) ∧ v = .slice A' k c' ∧ i = .int .i64 (k : Int) ∧ Done w wr g n1 (n1 + n2) rs A5 c5 k A' c') (fun _ i _ => (n1 + n2) - (intOf i).toNat)
  case atStart => exact ⟨0, none, 0, Nat.zero_le _, rfl, rfl, HST.out⟩
  case round =>
    obtain ⟨k, A', c', hk, rfl, rfl, hoall, hd, hrt, hl1, hbel, horow⟩ := hrel
    by_cases hlt : k < (n1 + n2)
    · have hkr : k < rs.length := by rw [HRN.out]; exact hlt
      obtain ⟨b, off, hA5, hbl, hcl⟩ := (sees_own horow).2 (by omega)
      obtain ⟨e0, e1⟩ := rcs_get rs k hkr
      have c0 := hcl _ _ e0
      have c1' := hcl _ _ e1
      rw [show off + (k * 2 + 1) = off + k * 2 + 1 from by omega] at c1'
      have hsd := HRS.out _ (List.getElem_mem hkr)
      have hs := hsd.below hbel
      have htk : (rs.map RecP.m).take (k + 1) = (rs.map RecP.m).take k ++ [(rs[k].k, rs[k].l)] := by
        rw [List.take_succ_eq_append_getElem (by rw [List.length_map]; exact hkr), List.getElem_map]; rfl
      have hslen : rs[k].l.length = rs[k].n := by have := hsd.1; simpa using this
      clear hcl e0 e1 hsd
      generalize rs[k].k = x at *
      generalize rs[k].A = AB at *
      generalize rs[k].n = nB at *
      generalize rs[k].c = cB at *
      generalize rs[k].l = lB at *
      unfold cb at c0
      have hlt' : (k : Int) < (n1 : Int) + (n2 : Int) := by omega
      have HTK := Lib.hid htk
      have HSL := Lib.hid hslen
      have HL1 := Lib.hid hl1
      have HRT := Lib.hid hrt
      have HOA := Lib.hid hoall
      have HOR := Lib.hid horow
      subst hA5
      have hA1 := Blk.new wr 24 #[.int .u8 (x.toNat : Int), .slice AB nB cB]
      have hd1 := hd.alloc (.cells #[.int .u8 (x.toNat : Int), .slice AB nB cB] 24)
      have hb1 := hbel.alloc hbel.size (.cells #[.int .u8 (x.toNat : Int), .slice AB nB cB] 24)
      have hs1 := hs.alloc hbel.size (.cells #[.int .u8 (x.toNat : Int), .slice AB nB cB] 24)
      have HZ1 := Lib.hid (show wr.heap.size + 1 = (wr.alloc (.cells #[.int .u8 (x.toNat : Int), .slice AB nB cB] 24)).heap.size by simp)
      have hk1 : Keeps wr (wr.alloc (.cells #[.int .u8 (x.toNat : Int), .slice AB nB cB] 24)) := Keeps.below ((Below.refl _ _).alloc (Nat.le_refl _) _)
      have hcv := tok_conv (wr.alloc (.cells #[.int .u8 (x.toNat : Int), .slice AB nB cB] 24)) _ AB nB cB lB hs1
      clear htk hslen hl1 hrt hoall horow hd hs hbl
      by_cases hB300 : 300 < nB
      · have hB3 : (300 : Int) < (nB : Int) := by omega
        clear hd1 hs1 hk1 hA1
        go_wp2_with fail
        go_ret
        exact ⟨rfl, hb1.alloc hb1.size _⟩
      · have hB3 : ¬ (300 : Int) < (nB : Int) := by omega
        go_wp2_with fail
        have hP2 := Blk.new (wr.alloc (.cells #[.int .u8 (x.toNat : Int), .slice AB nB cB] 24)) 37 #[.int .u8 (x.toNat : Int), .string (tok lB)]
        rw [← HZ1.out] at hP2
        have hA2 := hA1.alloc (.cells #[.int .u8 (x.toNat : Int), .string (tok lB)] 37)
        have hd2 := hd1.alloc (.cells #[.int .u8 (x.toNat : Int), .string (tok lB)] 37)
        have hb2 := hb1.alloc hb1.size (.cells #[.int .u8 (x.toNat : Int), .string (tok lB)] 37)
        have hs2 := hs1.alloc hb1.size (.cells #[.int .u8 (x.toNat : Int), .string (tok lB)] 37)
        have hk2 := hk1.trans (Keeps.below ((Below.refl _ _).alloc (Nat.le_refl _) (.cells #[.int .u8 (x.toNat : Int), .string (tok lB)] 37)))
        clear hA1 hd1 hb1 hs1 hk1 hcv c0 c1' HZ1
        generalize (wr.alloc (.cells #[.int .u8 (x.toNat : Int), .slice AB nB cB] 24)).alloc (.cells #[.int .u8 (x.toNat : Int), .string (tok lB)] 37) = W2 at *
        refine (refRight_any (x, lB) W2).mono ?_
        rintro e W3 ⟨rfl, hW3⟩
        have hP3 : Blk W3 (wr.heap.size + 1) 37 #[.int .u8 (x.toNat : Int), .string (tok lB)] := by rw [hW3]; exact hP2.alloc _
        have hA3 : Blk W3 wr.heap.size 24 #[.int .u8 (x.toNat : Int), .slice AB nB cB] := by rw [hW3]; exact hA2.alloc _
        have hd3 : Dsk W3 g g (recsB ((rs.map RecP.m).take k)) (if k ≤ n1 then 0 else (recsB ((rs.map RecP.m).take n1)).length) := by rw [hW3]; exact hd2.alloc _
        have hb3 : Below w.heap.size w W3 := by rw [hW3]; exact hb2.alloc hb2.size _
        have hs3 : Sees W3 w.heap.size AB nB (cbs lB) := by rw [hW3]; exact hs2.alloc hb2.size _
        have hk3 : Keeps wr W3 := by rw [hW3]; exact hk2.trans (Keeps.below ((Below.refl _ _).alloc (Nat.le_refl _) _))
        clear hP2 hA2 hd2 hb2 hs2 hk2 hW3
        by_cases hright : RightM (x, lB)
        · rw [rightB_of hright]
          have hs13 : ∀ (z : Nat), (if k + 1 ≤ n1 then 0 else z) = if k ≤ n1 then (if k = n1 then z else 0) else z := fun z => by
            by_cases h1 : k + 1 ≤ n1
            · rw [if_pos h1, if_pos (by omega), if_neg (by omega)]
            · by_cases h2 : k = n1
              · rw [if_neg h1, if_pos (by omega), if_pos h2]
              · rw [if_neg h1, if_neg (by omega)]
          have HS13 := Lib.hid hs13
          clear hs13
          have hlen := HL1.out
          have hbg := hd3.lt
          have hcase := Classical.em (k = n1)
          rcases hcase with hkn | hkn
          case' inl =>
            have hq : ((k : Int) == (n1 : Int)) = true := by rw [beq_iff_eq]; omega
            have HSY := Lib.hid (dSync2_any g g _ _ W3 hd3)
            have HA3 := Lib.hid hA3
            have HP3 := Lib.hid hP3
            have hz4 : ∀ W, Dsk W g g (recsB ((rs.map RecP.m).take k)) (recsB ((rs.map RecP.m).take k)).length → Dsk W g g (recsB ((rs.map RecP.m).take k)) (if k + 1 ≤ n1 then 0 else (recsB ((rs.map RecP.m).take n1)).length) := fun W h => by
              rw [if_neg (by omega)]
              rw [← hkn]
              exact h
            have HZ4 := Lib.hid hz4
            clear hd3 hA3 hP3 hz4 hkn
            go_wp2_with (go_at_call 14; refine HSY.out.mono ?_; rintro e W4 ⟨rfl, hd4', hb4', hk4'⟩; have hd4 := HZ4.out _ hd4'; have hA4 := hk4'.blk HA3.out (by decide) (by decide); have hP4 := hk4'.blk HP3.out (by decide) (by decide); have d0 : W4.cell? ⟨wr.heap.size, 0, none⟩ = some (.int .u8 (x.toNat : Int)) := (by rw [hA4.cell]; rfl); have d1 : W4.cell? ⟨wr.heap.size, 1, none⟩ = some (.slice AB nB cB) := (by rw [hA4.cell]; rfl))
            have hb4 := hb3.trans (hb4'.mono hgw)
            have hk4 := hk3.trans hk4'
            have hs4 : Sees W4 w.heap.size AB nB (cbs lB) := hs3.below (hb4'.mono hgw)
            have hbg4 := Nat.lt_of_lt_of_le hbg hb4'.size
            clear hd4' hb4' hk4' hb3 hk3 hs3 HSY HA3 HP3 HZ4 hq hbg
          case' inr =>
            have hq : ((k : Int) == (n1 : Int)) = false := by rw [beq_eq_false_iff_ne]; omega
            have hd4 : Dsk W3 g g (recsB ((rs.map RecP.m).take k)) (if k + 1 ≤ n1 then 0 else (recsB ((rs.map RecP.m).take n1)).length) := by
              rw [HS13.out]
              rw [if_neg hkn]
              exact hd3
            have d0 : W3.cell? ⟨wr.heap.size, 0, none⟩ = some (.int .u8 (x.toNat : Int)) := by rw [hA3.cell]; rfl
            have d1 : W3.cell? ⟨wr.heap.size, 1, none⟩ = some (.slice AB nB cB) := by rw [hA3.cell]; rfl
            have hP4 := hP3
            have hA4 := hA3
            have hb4 := hb3
            have hk4 := hk3
            have hs4 := hs3
            have hbg4 := hbg
            clear hP3 hA3 hd3 hb3 hk3 hs3 hbg hkn
            go_wp2_with fail
            generalize W3 = W4 at *
          all_goals
            obtain ⟨s4, hs4e⟩ : ∃ s4, (if k + 1 ≤ n1 then 0 else (recsB ((rs.map RecP.m).take n1)).length) = s4 := ⟨_, rfl⟩
            have HS4 := Lib.hid hs4e
            rw [hs4e] at hd4
            have HP4 := Lib.hid hP4
            have HK4 := Lib.hid hk4
            have HAP := Lib.hid (wappend_any g g s4 _ x AB nB cB lB W4 hd4 (hs4.more hb4.size) (Nat.le_of_lt hbg4) (by have := HL1.out; omega))
            have hap := appF_right (recsB ((rs.map RecP.m).take k)) (x, lB) hright (by have h1 := HL1.out; have h2 := HSL.out; simp only; omega)
            rw [hap] at HAP
            have HAP2 := Lib.hid HAP.out
            clear HAP hap hs4e hd4 hA4 hP4 hk4 hs4 HS13 d0 d1
            obtain ⟨j0, hj0, hy0, hy1, hy2⟩ := info_parts rrec_row
            have hm2 : k + 1 ≤ maxLen := by unfold maxLen; omega
            have hm3 : (k + 1) * 24 ≤ 140737488355328 := by omega
            go_wp2_with (first
              | (go_at_call 15; refine HAP2.out.mono ?_; rintro e W5 ⟨rfl, hd5, hb5, hk5⟩
                 have hP5 := hk5.blk HP4.out (by decide) (by decide)
                 have q0 : W5.cell? ⟨wr.heap.size + 1, 0, none⟩ = some (.int .u8 (x.toNat : Int)) := (by rw [hP5.cell]; rfl)
                 have q1 : W5.cell? ⟨wr.heap.size + 1, 1, none⟩ = some (.string (tok lB)) := (by rw [hP5.cell]; rfl)
                 have hk6 := HK4.out.trans hk5
                 have hoa5 := (hk6.own HOA.out (by decide) (by decide)).alloc (.cells #[.int .u8 (x.toNat : Int), .string (tok lB)] 37)
                 have hor5 := (hk6.own HOR.out (by decide) (by decide)).alloc (.cells #[.int .u8 (x.toNat : Int), .string (tok lB)] 37)
                 have hb6 := hb4.trans (hb5.mono hgw)
                 have hb7 := hb6.alloc hb6.size (.cells #[.int .u8 (x.toNat : Int), .string (tok lB)] 37)
                 have hd6 := hd5.alloc (.cells #[.int .u8 (x.toNat : Int), .string (tok lB)] 37)
                 have hn6 := sees_new W5 #[.int .u8 (x.toNat : Int), .string (tok lB)] 37
                 have hz6 : g + 1 ≤ (W5.alloc (.cells #[.int .u8 (x.toNat : Int), .string (tok lB)] 37)).heap.size := hd6.lt
                 clear hP5 hk5 hk6 hb5 hb6 hd5)
              | (at_builtin; refine wpList_append_rows _ rfl (.tmp 71) (.tmp 73) _ rfl (g + 1) 37 j0 _ 2 24 srrec_u hj0 hy0 hy1 hy2 rfl (by decide) (.slice A' k c') k (tcs ((rs.map RecP.m).take k)) rfl hoa5 _ (some ⟨W5.heap.size, 0, none⟩) 1 1 [.int .u8 (x.toNat : Int), .string (tok lB)] rfl hn6 (by simp [Value.oneCell']) hm2 hm3 hz6 ?_
                 intro v7 W7 ho7 hg7
                 have hd7 := own_far_dsk hoa5 hg7 (by decide) (by decide) hd6
                 have hor7 := own_far_own hoa5 hg7 hor5 (by decide)
                 have hb8 := hb7.grown hg7 hb7.size (fun q hq => by have := (hoa5.lt q hq).1; omega)
                 obtain ⟨A7, c7, rfl, _, _⟩ := own_form2 ho7
                 clear hoa5 hor5 hb7 hd6 hn6 hz6 hg7 q0 q1))
            go_roundw
            case rel =>
              have hrl := recB_length (x, lB)
              have h1 := HL1.out
              have h2 := HSL.out
              simp only at hrl
              refine ⟨k + 1, A7, c7, by omega, rfl, by go_num, ?_⟩
              unfold Done
              rw [HS4.out, HTK.out, recsB_snoc, tcs_append]
              refine ⟨ho7, hd7, ?_, ?_, hb8, hor7⟩
              · intro r hr
                rcases List.mem_append.1 hr with h | h
                · exact HRT.out r h
                · rw [List.mem_singleton.1 h]; exact hright
              · rw [List.length_append, hrl]; omega
            case measure => simp [intOf]; omega
        · rw [rightB_not hright]
          clear hP3 hA3 hd3 hs3 hk3
          go_wp2_with fail
          go_ret
          exact ⟨rfl, hb3⟩
    · obtain rfl : k = n1 + n2 := by omega
      have hlt' : ¬ ((n1 : Int) + (n2 : Int) < (n1 : Int) + (n2 : Int)) := by omega
      obtain ⟨ms1, hms1⟩ : ∃ ms1, rs1.map RecP.m = ms1 := ⟨_, rfl⟩
      obtain ⟨ms2, hms2⟩ : ∃ ms2, rs2.map RecP.m = ms2 := ⟨_, rfl⟩
      have hm1l : ms1.length = n1 := by rw [← hms1, List.length_map]; exact HN1.out
      have hm2l : ms2.length = n2 := by rw [← hms2, List.length_map]; exact HN2.out
      have hmm : rs.map RecP.m = ms1 ++ ms2 := by rw [← HRSE.out, List.map_append, hms1, hms2]
      have htA : (rs.map RecP.m).take (n1 + n2) = ms1 ++ ms2 := by rw [hmm]; exact List.take_of_length_le (by rw [List.length_append]; omega)
      have htB : (rs.map RecP.m).take n1 = ms1 := by rw [hmm, List.take_append, hm1l, Nat.sub_self, List.take_zero, List.append_nil]; exact List.take_of_length_le (by omega)
      rw [htA] at hoall hrt hl1 hd
      rw [htB] at hd
      rw [recsB_append] at hl1 hd
      have hr1 : ∀ r ∈ ms1, RightM r := fun r hr => hrt r (List.mem_append_left _ hr)
      have hr2 : ∀ r ∈ ms2, RightM r := fun r hr => hrt r (List.mem_append_right _ hr)
      have hll : (recsB ms1 ++ recsB ms2).length ≤ 1048576 := by omega
      obtain ⟨kk, en, hkk, hrd, hen, hse⟩ := crash_reads ms1 ms2 hr1 hr2 keep at_ y
      have hcl := crash_len (recsB ms1 ++ recsB ms2) (recsB ms1).length keep at_ y
      have hinv := readB_inv _ (crashF (recsB ms1 ++ recsB ms2) (recsB ms1).length keep at_ y) (Nat.le_refl _)
      have hagain := readB_again (crashF (recsB ms1 ++ recsB ms2) (recsB ms1).length keep at_ y)
      have HML := Lib.hid (show (ms1 ++ ms2).length = n1 + n2 by rw [List.length_append, hm1l, hm2l])
      rw [hm1l] at hrd
      obtain ⟨L, hL⟩ : ∃ L, n1 + kk = L := ⟨_, rfl⟩
      rw [hL] at hrd
      have hL1 : n1 ≤ L := by omega
      have hL2 : L ≤ n1 + n2 := by omega
      have hrl : (readB (crashF (recsB ms1 ++ recsB ms2) (recsB ms1).length keep at_ y)).1.length = L := by
        have h := HML.out
        rw [hrd, List.length_take]
        omega
      have hgl2 := hd.lt
      have HRD := Lib.hid hrd
      have HEN := Lib.hid hen
      have HSE := Lib.hid hse
      have HCL := Lib.hid hcl
      have HINV := Lib.hid hinv.1
      have HAG := Lib.hid hagain
      have HRL := Lib.hid hrl
      have HOA := Lib.hid hoall
      have hca : n1 + n2 ≤ c' := by
        obtain ⟨A9, c9, hv, h1, _⟩ := own_form2 hoall
        injection hv with _ _ h3
        omega
      have HCR := Lib.hid (fun W (h : Dsk W g g (recsB ms1 ++ recsB ms2) (recsB ms1).length) => dCrash2_any g g (recsB ms1).length (recsB ms1 ++ recsB ms2) keep at_ y W h hll)
      generalize crashF (recsB ms1 ++ recsB ms2) (recsB ms1).length keep at_ y = C at *
      have hcase := Classical.em (n2 = 0)
      clear hrt hl1 horow hms1 hms2 hmm htA htB hr1 hr2 hkk hrd hen hse hcl hinv hagain hL hrl hoall HRSE HRN HRS HST HN1 HN2
      rcases hcase with h2 | h2
      case' inl =>
        have hq : ((n2 : Int) == 0) = true := by rw [beq_iff_eq]; omega
        have hm20 : ms2 = [] := List.eq_nil_of_length_eq_zero (by omega)
        have HSY := Lib.hid (dSync2_any g g _ _ wr hd)
        have hz4 : ∀ W, Dsk W g g (recsB ms1 ++ recsB ms2) (recsB ms1 ++ recsB ms2).length → Dsk W g g (recsB ms1 ++ recsB ms2) (recsB ms1).length := fun W h => by
          rw [hm20, recsB_nil, List.append_nil] at h ⊢
          exact h
        have HZ4 := Lib.hid hz4
        clear hd hz4 hm20 hm1l hm2l h2
        go_wp2_with (go_at_call 14; refine HSY.out.mono ?_; rintro e W1 ⟨rfl, hd1', hb1', hk1'⟩; have hd1 := HZ4.out _ hd1'; have hoa1 := hk1'.own HOA.out (by decide) (by decide); have hb1 := hbel.trans (hb1'.mono hgw); have hg1 := Nat.lt_of_lt_of_le hgl2 hb1'.size)
        clear hd1' hb1' hk1' HSY HZ4 hq hbel hgl2 HOA
      case' inr =>
        have hq : ((n2 : Int) == 0) = false := by rw [beq_eq_false_iff_ne]; omega
        rw [if_neg (by omega)] at hd
        have hd1 := hd
        have hb1 := hbel
        have hg1 := hgl2
        have hoa1 := HOA.out
        clear hd hbel hgl2 HOA hm1l hm2l h2
        go_wp2_with fail
        clear hq
        generalize wr = W1 at *
      all_goals
        have hag := HAG.out
        have hiv := HINV.out
        rw [HEN.out] at hag hiv
        have HAG2 := Lib.hid hag
        have HCL2 := Lib.hid (show C.length ≤ 1048576 from Nat.le_trans HCL.out hll)
        have HTL := Lib.hid (show ((C.take en).take en).length = en by rw [List.length_take, List.length_take]; omega)
        have HIV := Lib.hid hiv
        clear hag hiv HAG HINV HCL hll
        refine (HCR.out W1 hd1).mono ?_
        rintro e W2 ⟨rfl, hd2, hb2', hk2⟩
        have hoa2 := hk2.own hoa1 (by decide) (by decide)
        have hb2 := hb1.trans (hb2'.mono hgw)
        have hg2' := Nat.lt_of_lt_of_le hg1 hb2'.size
        clear hd1 hoa1 hb1 hg1 hb2' hk2 HCR
        go_wp2_with fail
        refine (dBytes_any g g _ C W2 hd2 (by have := HCL2.out; omega)).mono ?_
        rintro e W3 ⟨A16, c16, rfl, hf3, hb3'⟩
        have hoa3 := own_on hoa2 hb3'
        have hd3 := hd2.on hb3'
        have hb3 := bthen hb2 hb3'
        have hg3' := Nat.lt_of_lt_of_le hg2' hb3'.size
        clear hd2 hoa2 hb2 hb3'
        go_wp2_with fail
        refine (wrecover_any g g _ C W3 hd3 (by omega) HCL2.out (by rw [HEN.out]; exact HSE.out)).mono ?_
        rintro e W4 ⟨A17, c17, rsL, rfl, hrs, hrf, hd4, hb4', hg4'⟩
        rw [HEN.out] at hd4
        have hlL : rsL.length = L := by rw [← HRL.out, ← hrs, List.length_map]
        have hoa4 := own_past hoa3 hg4' (by omega)
        have hf4 := hf3.grown hg4' (fun a _ hb _ e => by injection e with e; omega)
        have hb4 := hb3.trans (hb4'.mono hgw)
        have hg5' := Nat.lt_of_lt_of_le hg3' hb4'.size
        have HSA := Lib.hid (same5_any _ _ A17 A' L c17 c' rsL ((ms1 ++ ms2).take L) W4 hrf.recs (toks_take hoa4 HML.out hL2) (hrs.trans HRD.out) hlL (by omega) (Nat.le_refl _) (Nat.le_refl _))
        have hsl := fun W => rows_upto A' (n1 + n2) c' L (by omega) W
        have hi1 : ¬ (L : Int) < (n1 : Int) := by omega
        have hi2 : ¬ (n1 : Int) + (n2 : Int) < (L : Int) := by omega
        rw [hlL]
        clear hd3 hoa3 hb3 hb4' hg4' hf3 hrs hrf hlL
        go_wp2_with (go_at_call 9; refine HSA.out.mono ?_; rintro e W5 ⟨rfl, hb5'⟩)
        have hoa5 := own_on hoa4 hb5'
        have hf5 := hf4.on hb5'
        have hd5 := hd4.on hb5'
        have hb5 := bthen hb4 hb5'
        have hg6' := Nat.lt_of_lt_of_le hg5' hb5'.size
        clear hd4 hoa4 hb4 hb5' hf4 HSA
        refine (refRead_any A16 C.length c16 C W5 hf5.sees hf5.2.1 hf5.2.2.1 (by have := HCL2.out; omega)).mono ?_
        rintro e W6 ⟨A19, c19, rfl, _, hb6'⟩
        rw [HRL.out, HEN.out]
        have hoa6 := own_on hoa5 hb6'
        have hd6 := hd5.on hb6'
        have hb6 := bthen hb5 hb6'
        have hg7' := Nat.lt_of_lt_of_le hg6' hb6'.size
        clear hd5 hoa5 hb5 hb6' hf5
        go_wp2_with fail
        refine (wrecover_any g g en (C.take en) W6 hd6 (by omega) (by have h1 := HCL2.out; have h2 := HIV.out; rw [List.length_take]; omega) (by rw [HAG2.out]; exact Nat.le_refl _)).mono ?_
        rintro e W7 ⟨A22, c22, rsM, rfl, hrs2, hrf2, hd7, hb7', hg8'⟩
        rw [HAG2.out] at hrs2 hd7
        simp only at hrs2 hd7
        have hlM : rsM.length = L := by rw [← HRL.out, ← hrs2, List.length_map]
        have hoa7 := own_past hoa6 hg8' (by omega)
        have hb7 := hb6.trans (hb7'.mono hgw)
        have HSB := Lib.hid (same5_any _ _ A22 A' L c22 c' rsM ((ms1 ++ ms2).take L) W7 hrf2.recs (toks_take hoa7 HML.out hL2) (hrs2.trans HRD.out) hlM (by omega) (Nat.le_refl _) (Nat.le_refl _))
        have HD7 := Lib.hid hd7
        have HLN := Lib.hid (fun W h => dLen_any g g en ((C.take en).take en) W h)
        rw [HTL.out] at HLN
        rw [hlM]
        clear hd6 hoa6 hb6 hb7' hg8' hrs2 hrf2 hlM hd7 hoa7
        go_wp2_with (first
          | (go_at_call 9; refine HSB.out.mono ?_; rintro e W8 ⟨rfl, hb8'⟩; have hd8 := HD7.out.on hb8'; have hb8 := bthen hb7 hb8')
          | (go_at_call 19; refine (HLN.out _ hd8).mono ?_; rintro e W9 ⟨rfl, rfl⟩)
          | (go_at_call 20; refine (dSynced_any g g en _ _ hd8).mono ?_; rintro e W9 ⟨rfl, rfl⟩))
        go_ret
        exact ⟨rfl, hb8⟩

set_option maxRecDepth 100000 in
theorem lifted (os : Os) (started : os.Started) (H : Type) (enc : TypeId × Value → H) :
    ReturnsInHanded {} Try.checked os 4 .any (Rows.walCrashSpec.pre6 enc Try.prog Try.f4 Rows.walCrashRow.domain false) (Rows.walCrashSpec.post enc Try.prog Try.f4 false true false false) := by
  refine returnsInHanded_of_change (C := Try.checked) own started (by kernel_rfl) Try.func4
    (ChangeSpec.witness6 (enc := enc) (C := Try.checked) false ⟨#[], #[.slice none 0 0, .slice none 0 0, .int .i64 0, .int .i64 0, .int .u8 0], []⟩ 8 (by kernel_rfl) (by kernel_rfl) (by kernel_rfl) (by kernel_rfl)) ?_
  intro W base args ds gs before hval0 hW hcnd _
  have hval : ∀ (j : Nat) t v, Try.f4.params[j]? = some t → args[j]? = some v → Value.okWide Try.prog W .any base t v := hval0
  have hW' := hW
  obtain ⟨p, q, hA0, hV, rfl, hfz, hnd⟩ := hW
  have hA : DataW.TrodAll enc Try.prog W 0 (fun _ => true) true Try.f4.params.toList args.toList ds p := hA0
  rw [Try.params4] at hA hval
  obtain ⟨v0, vs0, d0, ds0, p0, q0, hargs, rfl, rfl, h0, r0⟩ := trodAll_cons hA
  obtain ⟨v1, vs1, d1, ds1, p1, q1, rfl, rfl, rfl, h1, r1⟩ := trodAll_cons r0
  obtain ⟨v2, vs2, d2, ds2, p2, q2, rfl, rfl, rfl, h2, r2⟩ := trodAll_cons r1
  obtain ⟨v3, vs3, d3, ds3, p3, q3, rfl, rfl, rfl, h3, r3⟩ := trodAll_cons r2
  obtain ⟨v4, vs4, d4, ds4, p4, q4, rfl, rfl, rfl, h4, r4⟩ := trodAll_cons r3
  obtain ⟨rfl, rfl, rfl⟩ := trodAll_nil r4
  obtain rfl : args = #[v0, v1, v2, v3, v4] := by cases args; simp_all
  obtain ⟨rfl, rfl⟩ := trodVars_none hV
  obtain ⟨a0, len0, cap0, rfl⟩ := okWide_slice Try.underlying26 (hval 0 26 v0 rfl rfl)
  obtain ⟨a1, len1, cap1, rfl⟩ := okWide_slice Try.underlying26 (hval 1 26 v1 rfl rfl)
  have k0 := h0
  have lt0 : ∀ x ∈ p0, x.block < W.heap.size := by obtain ⟨m, hm⟩ := k0; exact DataW.trod_lt m _ _ _ hm
  have k1 := h1
  have lt1 : ∀ x ∈ p1, x.block < W.heap.size := by obtain ⟨m, hm⟩ := k1; exact DataW.trod_lt m _ _ _ hm
  obtain ⟨i2, rfl, rfl, rfl, w2⟩ := open_int Try.underlying3 (hval 2 3 v2 rfl rfl) h2
  obtain ⟨i3, rfl, rfl, rfl, w3⟩ := open_int Try.underlying3 (hval 3 3 v3 rfl rfl) h3
  obtain ⟨i4, rfl, rfl, rfl, w4⟩ := open_int Try.underlying5 (hval 4 5 v4 rfl rfl) h4
  obtain ⟨m0, h0⟩ := h0
  obtain ⟨m1, h1⟩ := h1
  obtain ⟨hl0, hc0, rs0, hrn0, hrs0, hrc0⟩ := open_recs h0
  obtain ⟨hl1, hc1, rs1, hrn1, hrs1, hrc1⟩ := open_recs h1
  obtain ⟨y, hy⟩ : ∃ y : UInt8, i4 = (y.toNat : Int) := ⟨UInt8.ofNat i4.toNat, by have := bounds_u8 w4; rw [UInt8.toNat_ofNat']; omega⟩
  subst hy
  clear hA0 hval0
  refine (walk a0 cap0 rs0 len0 a1 cap1 rs1 len1 i2 i3 y W hrs0 hrn0 hl0 hc0 hrs1 hrn1 hl1 hc1).mono fun e W' ⟨he, bel⟩ => ?_
  subst he
  exact ⟨_, rfl, _, _, _, [], _, [], hW', trodAll_mk1 (shut_bool Try.underlying4 _), (trodAll_cons_mk (Below.trod laidOut (by kernel_rfl) (of_decide_eq_true (by kernel_rfl)) k0 bel lt0) (trodAll_cons_mk (Below.trod laidOut (by kernel_rfl) (of_decide_eq_true (by kernel_rfl)) k1 bel lt1) (trodAll_cons_mk (shut_int Try.underlying3 w2) (trodAll_cons_mk (shut_int Try.underlying3 w3) (trodAll_cons_mk (shut_int Try.underlying5 w4) trodAll_mk0))))), rfl, bel.frame _, fun h => by cases h⟩

theorem over : Rows.walCrashRow.holds Try.pinned (OpenSpec.ofChange Rows.walCrashSpec) :=
  OpenClaim.holds_of_wide 4 Try.f4 rfl rfl rfl rfl rfl rfl rfl ⟨rfl, rfl, rfl, rfl, rfl⟩ rfl rfl rfl rfl rfl (by kernel_rfl) Try.func4 (by kernel_rfl)
    (of_decide_eq_true (by kernel_rfl)) (by unfold Func.isWrapper; first | (rw [if_pos (by decide +kernel)]; kernel_rfl) | (rw [if_neg (by decide +kernel)]; exact ⟨rfl, rfl⟩))
    (fun os started H enc _ => lifted os started H enc)

theorem proved : Rows.WalCrashSaid :=
  over
#print axioms proved
end Go.Proofs.Ytjmpokaifnhnmaa.walCrash
