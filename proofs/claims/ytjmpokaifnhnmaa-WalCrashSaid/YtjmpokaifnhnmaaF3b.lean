/- The walk of the document's own Take (kissinggateref03). -/
import Derived.Test.YtjmpokaifnhnmaaF3
namespace Go.Proofs.Ytjmpokaifnhnmaa
open Go.RowKit

set_option maxRecDepth 100000 in
set_option maxHeartbeats 1600000 in
/-- kissinggateref03.Take -/
theorem refTake_any (A : Option Addr) (n c : Nat) (l : List UInt8) (B : Nat) (w : World) (hs : Sees w B A n (cbs l)) (hB : B ≤ w.heap.size) (hc : n ≤ c) (hm : c ≤ maxLen) (hn : n ≤ 140737488355328) :
    Calls Try.prog 25 #[.slice A n c] w (TakeRet w (takeF l)) := by
  have hlen : l.length = n := by have := hs.1; simpa using this
  have HT := Lib.hid (show takeF l = if (lenF l).2 ≠ 0 then ⟨[], 0, (lenF l).2⟩ else
    if l.length < (lenF l).1 + 8 then ⟨[], 0, 2⟩ else
    if le4 (crcOf ((l.drop 4).take (lenF l).1)) = (l.drop (4 + (lenF l).1)).take 4 then ⟨(l.drop 4).take (lenF l).1, (lenF l).1 + 8, 0⟩ else ⟨[], 0, 3⟩ from rfl)
  have hm9 : c ≤ 9223372036854775807 := hm
  clear hm
  obtain ⟨i0, hi0, hz0, hz1, hz2⟩ := info_parts u8_row
  by_cases h4 : n < 4
  · have hz : (n : Int) < 4 := by omega
    have hT := HT.out
    rw [lenF_short (by omega), if_pos (by simp)] at hT
    have HTT := Lib.hid hT
    clear hT HT
    go_enter Try.func25, Try.ntmps25
    go_wp2_with fail
    go_ret3
    exact TakeRet.none_ HTT.out rfl (Below.refl _ _)
  · have hz : ¬ (n : Int) < 4 := by omega
    have hlong := lenF_long (b := l) (by omega)
    obtain ⟨b, off, u0, rfl, hb, hu0, c0⟩ := hs.at_ (k := 0) (by omega)
    obtain ⟨x1, y1, u1, hA1, _, hu1, c1⟩ := hs.at_ (k := 1) (by omega)
    obtain ⟨x2, y2, u2, hA2, _, hu2, c2⟩ := hs.at_ (k := 2) (by omega)
    obtain ⟨x3, y3, u3, hA3, _, hu3, c3⟩ := hs.at_ (k := 3) (by omega)
    injection hA1 with hA1
    injection hA1 with e1 e2
    subst e1
    subst e2
    injection hA2 with hA2
    injection hA2 with e1 e2
    subst e1
    subst e2
    injection hA3 with hA3
    injection hA3 with e1 e2
    subst e1
    subst e2
    obtain ⟨b0, b1, b2, b3, r, hlr⟩ := hlong
    have hu0' : cb b0 = u0 := by rw [hlr] at hu0; simpa [cbs] using hu0
    have hu1' : cb b1 = u1 := by rw [hlr] at hu1; simpa [cbs] using hu1
    have hu2' : cb b2 = u2 := by rw [hlr] at hu2; simpa [cbs] using hu2
    have hu3' : cb b3 = u3 := by rw [hlr] at hu3; simpa [cbs] using hu3
    subst hu0'
    subst hu1'
    subst hu2'
    subst hu3'
    unfold cb at c0 c1 c2 c3
    rw [Nat.add_zero] at c0
    have hlf : lenF l = if b0 + b2 = 255 ∧ b1 + b3 = 255 then (if 4096 < b0.toNat * 256 + b1.toNat then (0, 4) else (b0.toNat * 256 + b1.toNat, 0)) else (0, 3) := by rw [hlr]; rfl
    have hv : wrap64 (wrap64 (wrap64 (b0.toNat : Int) * 256) + wrap64 (b1.toNat : Int)) = ((b0.toNat * 256 + b1.toNat : Nat) : Int) := by
      have := UInt8.toNat_lt b0
      have := UInt8.toNat_lt b1
      rw [w64_in (b0.toNat : Int) (by omega) (by omega), w64_in (b1.toNat : Int) (by omega) (by omega), w64_in ((b0.toNat : Int) * 256) (by omega) (by omega), w64_in _ (by omega) (by omega)]
      omega
    have hle : b0.toNat * 256 + b1.toNat ≤ 65535 := by have := UInt8.toNat_lt b0; have := UInt8.toNat_lt b1; omega
    generalize b0.toNat * 256 + b1.toNat = N at *
    have hw8 : IntKind.i64.wrap ((N : Int) + 8) = (N : Int) + 8 := by rw [IntKind.wrap_i64]; omega
    have HW8 := Lib.hid hw8
    clear hw8
    have q02 := sum_cell b0 b2
    have q13 := sum_cell b1 b3
    have hk1 : 1 < n := by omega
    have hk0 : 0 < n := by omega
    have hk2 : 2 < n := by omega
    have hk3 : 3 < n := by omega
    have HLF := Lib.hid hlf
    have HLEN := Lib.hid hlen
    clear hu0 hu1 hu2 hu3 hlr hlf hlen
    by_cases hg1 : b0 + b2 = 255
    · have hq1 : (((b0.toNat : Int) + (b2.toNat : Int)) % 256 == 255) = true := by rw [q02]; exact decide_eq_true hg1
      by_cases hg2 : b1 + b3 = 255
      · have hq2 : (((b1.toNat : Int) + (b3.toNat : Int)) % 256 == 255) = true := by rw [q13]; exact decide_eq_true hg2
        rw [beq_iff_eq] at hq1 hq2
        have hlf := HLF.out
        rw [if_pos ⟨hg1, hg2⟩] at hlf
        have HL := Lib.hid hlf
        clear HLF q02 q13 hlf
        have hN46 : N ≤ 70368744177664 := by omega
        by_cases h9 : 4096 < N
        · have h9' : (4096 : Int) < (N : Int) := by omega
          have hT := HT.out
          rw [HL.out, if_pos h9, if_pos (by simp)] at hT
          have HTT := Lib.hid hT
          clear hT HT HL
          go_enter Try.func25, Try.ntmps25
          go_wp2_with fail
          go_quiet (fail)
          go_wp2_with fail
          go_quiet (fail)
          go_wp2_with fail
          go_ret3
          exact TakeRet.none_ HTT.out rfl (below_drewN (Below.refl _ _) _)
        · have h9' : ¬ (4096 : Int) < (N : Int) := by omega
          have hlf := HL.out
          rw [if_neg h9] at hlf
          have hT := HT.out
          rw [hlf, if_neg (by simp), HLEN.out] at hT
          simp only at hT
          by_cases hsz : n < N + 8
          · have hsz' : (n : Int) < (N : Int) + 8 := by omega
            rw [if_pos hsz] at hT
            have HTT := Lib.hid hT
            clear hT HT HL hlf
            go_enter Try.func25, Try.ntmps25
            go_wp2_with fail
            go_quiet (fail)
            go_wp2_with fail
            go_quiet (fail)
            go_wp2_with fail
            go_ret3
            exact TakeRet.none_ HTT.out rfl (below_drewN (Below.refl _ _) _)
          · have hsz' : ¬ (n : Int) < (N : Int) + 8 := by omega
            rw [if_neg hsz] at hT
            have hNc : N + 8 ≤ c := Nat.le_trans (Nat.le_of_not_lt hsz) hc
            have hfs := frame_same (b := l) (by rw [hlf]) (by rw [hlf, HLEN.out]; show N + 8 ≤ n; omega)
            rw [hlf] at hfs
            simp only at hfs
            have hsd := (hs.drop (k := 4) (by omega) hc).take (k := N) (by omega)
            have hse := hs.take (k := N + 8) (by omega)
            rw [if_neg (by omega)] at hsd
            have hd1 : List.take N (List.drop 4 (cbs l)) = cbs (List.take N (List.drop 4 l)) := by simp [cbs, List.map_take, List.map_drop]
            have hd2 : List.take (N + 8) (cbs l) = cbs (List.take (N + 8) l) := by simp [cbs, List.map_take]
            rw [hd1] at hsd
            rw [hd2] at hse
            have hpl : (List.take N (List.drop 4 l)).length = N := by rw [List.length_take, List.length_drop, HLEN.out]; omega
            generalize List.take N (List.drop 4 l) = p at *
            generalize List.take (N + 8) l = fr at *
            generalize List.take 4 (List.drop (4 + N) l) = q at *
            have HTT := Lib.hid hT
            have HFS := Lib.hid hfs
            have HPL := Lib.hid hpl
            have HSD := Lib.hid hsd
            have HSE := Lib.hid hse
            have hn4 : ¬ c = 4 := by omega
            clear hT HT HL hlf hd1 hd2 hfs hpl hsd hse HLEN
            go_enter Try.func25, Try.ntmps25
            go_wp2_with fail
            go_quiet (fail)
            have d0 : (w.drewN nq).cell? ⟨b, off, none⟩ = some (.int .u8 (b0.toNat : Int)) := c0
            have d1 : (w.drewN nq).cell? ⟨b, off + 1, none⟩ = some (.int .u8 (b1.toNat : Int)) := c1
            have hsd0 : Sees (w.drewN nq) B (some ⟨b, off + 4, none⟩) N (cbs p) := HSD.out
            have hse0 : Sees (w.drewN nq) B (some ⟨b, off, none⟩) (N + 8) (cbs fr) := HSE.out
            have hb0 := below_drewN (Below.refl w.heap.size w) nq
            have hB0 : B ≤ (w.drewN nq).heap.size := hB
            clear c0 c1 c2 c3 hs HSD HSE hq1 hq2
            generalize w.drewN nq = w0 at *
            go_wp2_with fail
            go_quiet (fail)
            have hsd : Sees (w0.drewN nq) B (some ⟨b, off + 4, none⟩) N (cbs p) := hsd0
            have hse : Sees (w0.drewN nq) B (some ⟨b, off, none⟩) (N + 8) (cbs fr) := hse0
            have hb1 := below_drewN hb0 nq
            have hB1 : B ≤ (w0.drewN nq).heap.size := hB0
            rw [hv]
            clear hv hsd0 hse0 hb0 hB0 d0 d1
            generalize w0.drewN nq = w1 at *
            have hf0 := free_new w1 #[] 5 (by show 0 ≤ maxLen; decide)
            have hb2 := hb1.alloc hb1.size (.cells #[] 5)
            have hsd2 := hsd.alloc hB1 (.cells #[] 5)
            have hse2 := hse.alloc hB1 (.cells #[] 5)
            have hB2 : B ≤ (w1.alloc (.cells #[] 5)).heap.size := by simp; omega
            have hbz : w1.heap.size ≤ (w1.alloc (.cells #[] 5)).heap.size := by simp
            have hm1 : 0 + N ≤ maxLen := by unfold maxLen; omega
            have hm2 : (0 + N) * 1 ≤ 140737488355328 := by omega
            go_wp2_with (at_builtin; refine wpList_append_free _ rfl (.tmp 45) (.tmp 49) _ rfl w1.heap.size 5 i0 _ 1 sl_u8 hi0 hz0 hz1 hz2 rfl _ 0 0 [] rfl hf0 (by simp) B (some ⟨b, off + 4, none⟩) N (c - 4) (cbs p) rfl hsd2 (cbs_one p) hm1 hm2 hbz ?_
                         intro A3 c3 w3 ha
                         have hf3 := ha.1
                         have hb23 := ha.below hf0 (Below.refl w1.heap.size _) hbz (Nat.le_refl _)
                         have hb3 := ha.below hf0 hb2 hb2.size hb1.size
                         have hse3 : Sees w3 B (some ⟨b, off, none⟩) (N + 8) (cbs fr) := hse2.keep (fun p hp => hb23.cell (by omega))
                         have hB3 : B ≤ w3.heap.size := Nat.le_trans hB2 hb23.size
                         clear ha hf0 hb2 hsd2 hse2 hb23)
            have hb1z := hb1.size
            rw [Nat.zero_add, List.nil_append] at hf3
            clear hb1 hsd hse hB1 hbz hm1 hm2 hB2
            have hsl := fun W => slice_upto (some ⟨b, off, none⟩) n c ((N : Int) + 8) (N + 8) rfl hNc W
            have hw8 := HW8.out
            clear hNc HW8
            go_cut [59] (fun t wx => t = .bool (!(frameOf p == fr)) ∧ Below w3.heap.size w3 wx)
            case first =>
              have hcv0 := conv_sees' w3.drew B (some ⟨b, off, none⟩) (N + 8) c fr hse3.drew
              have hbd := (Below.refl w3.heap.size w3).drew
              go_region_with (go_at_call 28; refine (refPut_any A3 N c3 p w3.heap.size _ hf3.sees.drew (Nat.le_refl _) hN46).mono ?_; rintro e w5 ⟨A5, c5, rfl, hf5, hb5⟩; have hcv5 := conv_sees' w5 _ A5 _ c5 _ hf5.sees; have hcv6 := conv_sees' w5 B (some ⟨b, off, none⟩) (N + 8) c fr (hse3.drew.keep (w' := w5) (fun p hp => hb5.cell (Nat.lt_of_lt_of_le hp hB3))))
              all_goals
                go_wp2_with fail
                go_meet
                exact ⟨rfl, hbd.trans hb5⟩
            case rest =>
              obtain ⟨rfl, hbc⟩ := hcut
              have hb4 := bthen hb3 hbc
              have hf4 := (hf3.on hbc).mono hb1z
              have hfs := HFS.out
              clear hf3 hse3 hB3 hb3 hbc HFS
              generalize hqq : (frameOf p == fr) = qq at *
              by_cases hq : le4 (crcOf p) = q
              · have hqt : qq = true := by rw [← hqq, beq_iff_eq]; exact hfs.2 hq
                subst hqt
                have hT := HTT.out
                rw [if_pos hq] at hT
                have HTU := Lib.hid hT
                clear hT HTT hq hqq hfs
                go_wp2_with fail
                go_ret3
                have hpl := HPL.out
                rw [HTU.out]
                exact ⟨A3, c3, by simp only [hpl]; rfl, by simp only [hpl]; exact hf4, hb4⟩
              · have hqt : qq = false := by rw [← hqq, beq_eq_false_iff_ne]; exact fun h => hq (hfs.1 h)
                subst hqt
                have hT := HTT.out
                rw [if_neg hq] at hT
                have HTU := Lib.hid hT
                clear hT HTT hq hqq hfs
                go_wp2_with fail
                go_ret3
                exact TakeRet.none_ HTU.out rfl hb4
      · have hq2 : (((b1.toNat : Int) + (b3.toNat : Int)) % 256 == 255) = false := by rw [q13]; exact decide_eq_false hg2
        have hq2' : ¬ ((b1.toNat : Int) + (b3.toNat : Int)) % 256 = 255 := by rwa [beq_eq_false_iff_ne] at hq2
        rw [beq_iff_eq] at hq1
        have hlf := HLF.out
        rw [if_neg (fun h => hg2 h.2)] at hlf
        have hT := HT.out
        rw [hlf, if_pos (by simp)] at hT
        have HTT := Lib.hid hT
        clear hT HT HLF q02 q13 hlf
        go_enter Try.func25, Try.ntmps25
        go_wp2_with fail
        go_quiet (fail)
        go_wp2_with fail
        go_ret3
        exact TakeRet.none_ HTT.out rfl (below_drewN (Below.refl _ _) _)
    · have hq1 : (((b0.toNat : Int) + (b2.toNat : Int)) % 256 == 255) = false := by rw [q02]; exact decide_eq_false hg1
      have hq1' : (((b0.toNat : Int) + (b2.toNat : Int)) % 256 != 255) = true := by rw [bne, hq1]; rfl
      clear hq1
      have hlf := HLF.out
      rw [if_neg (fun h => hg1 h.1)] at hlf
      have hT := HT.out
      rw [hlf, if_pos (by simp)] at hT
      have HTT := Lib.hid hT
      clear hT HT HLF q02 q13 hlf
      go_enter Try.func25, Try.ntmps25
      go_wp2_with fail
      go_quiet (fail)
      go_wp2_with fail
      go_ret3
      exact TakeRet.none_ HTT.out rfl (below_drewN (Below.refl _ _) _)
end Go.Proofs.Ytjmpokaifnhnmaa
