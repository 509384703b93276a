/- WalSpoilt: a synced byte that is spoilt is told, whatever stands behind; then nothing is cut. For every input, without a condition. -/
import Derived.Test.YtjmpokaifnhnmaaRows
import Derived.Test.YtjmpokaifnhnmaaFix5
import Derived.Test.YtjmpokaifnhnmaaOpen5
import Derived.ProofKit
import Derived.OpenShut
namespace Go.Proofs.Ytjmpokaifnhnmaa.walSpoilt
open Go.ChangeShapes Go.WideShapes Go.ChangeAt Go.RowKit Go.Deep
set_option linter.unusedVariables false

theorem own : ownKnob Try.prog.godebug = none := by kernel_rfl
theorem laidOut : laidOutB Try.prog = true := by kernel_rfl

theorem recsB_snoc (rs : List RecM) (r : RecM) : recsB (rs ++ [r]) = recsB rs ++ recB r := by rw [recsB_append, recsB_cons, recsB_nil, List.append_nil]
theorem turn_left (l m : List UInt8) (i : Nat) (y : UInt8) (h : i < l.length) : turn (l ++ m) i y = turn l i y ++ m := by
  unfold turn
  rw [List.set_append_left _ _ h]
  congr 2
  rw [List.getD_eq_getElem?_getD, List.getD_eq_getElem?_getD, List.getElem?_append_left h]
theorem xor_ne (x y : UInt8) (h : y ≠ 0) : x ^^^ y ≠ x := by
  intro e
  apply h
  have := congrArg (fun z => x ^^^ z) e
  simpa [← UInt8.xor_assoc] using this
/-- what reading the spoilt bytes tells ends ahead of what is synced -/
theorem spoilt_ends (rs : List RecM) (h : ∀ r ∈ rs, RightM r) (tl : List UInt8) (i : Nat) (y : UInt8) (hi : i < (recsB rs).length) (hy : y ≠ 0) : (readB (turn (recsB rs ++ tl) i y)).2.1 < (recsB rs).length := by
  rw [turn_left _ _ _ _ hi]
  unfold turn
  refine readB_spoilt tl _ rs h i hi ?_
  rw [List.getD_eq_getElem?_getD, List.getElem?_eq_getElem hi]
  intro e
  injection e with e
  exact xor_ne _ y hy e.symm
theorem appF_bad (all : List UInt8) (r : RecM) (h : ¬ RightM r) : ∃ f : Nat, appF all r = (all, f) ∧ 0 < f := by
  unfold appF bytesF
  by_cases hk : r.1 = 0
  · exact ⟨1, by rw [if_pos hk, if_pos (by decide)], by omega⟩
  · have h4 : 4096 ≤ r.2.length := Nat.le_of_not_lt (fun h' => h ⟨hk, h'⟩)
    exact ⟨4, by rw [if_neg hk, if_pos h4, if_pos (by decide)], by omega⟩

set_option maxRecDepth 100000 in
set_option maxHeartbeats 3200000 in
theorem walk (A : Option Addr) (c : Nat) (rs : List RecP) (n : Nat) (A2 : Option Addr) (n2 c2 : Nat) (l2 : List UInt8) (at_ : Int) (y : UInt8) (w : World) (hr : Recs w w.heap.size A rs) (hrn : rs.length = n) (hrc : ∀ r ∈ rs, r.n ≤ r.c ∧ r.c ≤ maxLen) (hc : n ≤ c) (hm : c ≤ maxLen)
    (hs2 : Sees w w.heap.size A2 n2 (cbs l2)) (hc2 : n2 ≤ c2) (hm2 : c2 ≤ maxLen) :
    Calls Try.prog 5 #[.slice A n c, .slice A2 n2 c2, .int .i64 at_, .int .u8 (y.toNat : Int)] w fun e w' => e = .returned (.bool true) ∧ Below w.heap.size w w' := by
  have hm9 : c ≤ 9223372036854775807 := hm
  have hm29 : c2 ≤ 9223372036854775807 := hm2
  by_cases hgood : (0 < n ∧ n ≤ 20) ∧ n2 ≤ 300 ∧ y ≠ 0
  · obtain ⟨⟨hn0, hn20⟩, hn2, hy⟩ := hgood
    have hg1 : ¬ (n : Int) = 0 := by omega
    have hg2 : ¬ (20 : Int) < (n : Int) := by omega
    have hg3 : ¬ (300 : Int) < (n2 : Int) := by omega
    have hg4 : ((y.toNat : Int) == 0) = false := by rw [u8_zero]; exact decide_eq_false hy
    have hg5 : ((n : Int) == 0) = false := by rw [beq_eq_false_iff_ne]; exact hg1
    have HR := Lib.hid hr
    have HRN := Lib.hid hrn
    have HY := Lib.hid hy
    have HS2 := Lib.hid hs2
    have HRC := Lib.hid hrc
    clear hr hrn hrc hm hm2 hm9 hm29 hy hs2
    go_enter Try.func5, Try.ntmps5
    go_wp2_with fail
    refine (fixed5_any _).mono ?_
    rintro e w1 ⟨rfl, hb1⟩
    go_wp2_with fail
    refine (dNew_any w1).mono ?_
    rintro e w2 ⟨rfl, hd2, hb2⟩
    have hbw := bthen hb1 hb2
    have hgw := hb1.size
    clear hb1 hb2
    generalize w1.heap.size = g at *
    go_wp2_with fail
    go_loopw [37] (fun i wr => ∃ (k : Nat), k ≤ n ∧ i = .int .i64 (k : Int) ∧ Dsk wr g g (recsB ((rs.take k).map RecP.m)) 0 ∧ (∀ r ∈ (rs.take k).map RecP.m, RightM r) ∧ (recsB ((rs.take k).map RecP.m)).length ≤ 309 * k ∧ 9 * k ≤ (recsB ((rs.take k).map RecP.m)).length ∧ Below w.heap.size w wr) (fun i _ => n - (intOf i).toNat)
    case atStart => exact ⟨0, Nat.zero_le _, rfl, hd2, fun r hr => by simp at hr, by simp [recsB_nil], by simp, hbw⟩
    case round =>
      obtain ⟨k, hk, rfl, hd, hrt, hl1, hl2, hbel⟩ := hrel
      by_cases hlt : k < n
      · have hkr : k < rs.length := by rw [HRN.out]; exact hlt
        obtain ⟨b, off, rfl, hbl, hc0', hc1', hsr⟩ := HR.out.at_ hkr
        have c0 := (hbel.cell (p := ⟨b, off + k * 2, none⟩) hbl).trans hc0'
        have c1 := (hbel.cell (p := ⟨b, off + k * 2 + 1, none⟩) hbl).trans hc1'
        have hs := hsr.below hbel
        have htk : (rs.take (k + 1)).map RecP.m = (rs.take k).map RecP.m ++ [(rs[k].k, rs[k].l)] := by rw [List.take_succ_eq_append_getElem hkr, List.map_append]; rfl
        have hslen : rs[k].l.length = rs[k].n := by have := hsr.1; simpa using this
        clear hc0' hc1' hsr hbl
        generalize rs[k].k = x at *
        generalize rs[k].A = AB at *
        generalize rs[k].n = nB at *
        generalize rs[k].c = cB at *
        generalize rs[k].l = lB at *
        generalize (rs.take k).map RecP.m = ms at *
        unfold cb at c0
        have hlt' : (k : Int) < (n : Int) := by omega
        have HTK := Lib.hid htk
        have HSL := Lib.hid hslen
        have HL1 := Lib.hid hl1
        have HL2 := Lib.hid hl2
        have HRT := Lib.hid hrt
        clear htk hslen hl1 hl2 hrt
        have hd1 := hd.alloc (.cells #[.int .u8 (x.toNat : Int), .slice AB nB cB] 24)
        have hb1 := hbel.alloc hbel.size (.cells #[.int .u8 (x.toNat : Int), .slice AB nB cB] 24)
        have hs1 := hs.alloc hbel.size (.cells #[.int .u8 (x.toNat : Int), .slice AB nB cB] 24)
        by_cases hB300 : 300 < nB
        · have hB3 : (300 : Int) < (nB : Int) := by omega
          clear hd1 hd hs1 hs
          go_wp2_with fail
          go_ret
          exact ⟨rfl, hb1⟩
        · have hB3 : ¬ (300 : Int) < (nB : Int) := by omega
          have hz1 : g ≤ (wr.alloc (.cells #[.int .u8 (x.toNat : Int), .slice AB nB cB] 24)).heap.size := by have := hd1.lt; omega
          have HAP := Lib.hid (wappend_any g g 0 (recsB ms) x AB nB cB lB _ hd1 (hs1.more hb1.size) hz1 (by have := HL1.out; omega))
          clear hd1 hd hs1 hs hz1
          by_cases hright : RightM (x, lB)
          · have hap := appF_right (recsB ms) (x, lB) hright (by have h1 := HL1.out; have h2 := HSL.out; simp only; omega)
            rw [hap] at HAP
            have HAP2 := Lib.hid HAP.out
            clear HAP hap
            go_wp2_with (go_at_call 15; refine HAP2.out.mono ?_; rintro e w3 ⟨rfl, hd3, hb3, _⟩)
            go_roundw
            case rel =>
              have hrl := recB_length (x, lB)
              have h1 := HL1.out
              have h2 := HSL.out
              have h3 := HL2.out
              simp only at hrl
              refine ⟨k + 1, by omega, by go_num, ?_, ?_, ?_, ?_, hb1.trans (hb3.mono hgw)⟩
              · rw [HTK.out, recsB_snoc]; exact hd3
              · rw [HTK.out]
                intro r hr
                rcases List.mem_append.1 hr with h | h
                · exact HRT.out r h
                · rw [List.mem_singleton.1 h]; exact hright
              · rw [HTK.out, recsB_snoc, List.length_append, hrl]; omega
              · rw [HTK.out, recsB_snoc, List.length_append, hrl]; omega
            case measure => simp [intOf]; omega
          · obtain ⟨f, hap, hf0⟩ := appF_bad (recsB ms) (x, lB) hright
            rw [hap] at HAP
            have HAP2 := Lib.hid HAP.out
            have hf1 : ((f : Int) == 0) = false := by rw [beq_eq_false_iff_ne]; omega
            have hf2 : ¬ (f : Int) = 0 := by omega
            clear HAP hap
            go_wp2_with (go_at_call 15; refine HAP2.out.mono ?_; rintro e w3 ⟨rfl, hd3, hb3, _⟩)
            go_ret
            exact ⟨rfl, hb1.trans (hb3.mono hgw)⟩
      · have hlt' : ¬ (k : Int) < (n : Int) := by omega
        have hkn : k = n := by omega
        subst hkn
        have htk : (rs.take k).map RecP.m = rs.map RecP.m := by rw [List.take_of_length_le (by rw [HRN.out]; exact Nat.le_refl _)]
        rw [htk] at hd hrt hl1 hl2
        have HRT := Lib.hid hrt
        clear htk hrt
        have hs3 := HS2.out.below hbel
        generalize hms : rs.map RecP.m = ms at *
        obtain ⟨S, hS⟩ : ∃ S, recsB ms = S := ⟨_, rfl⟩
        rw [hS] at hd hl1 hl2
        have HSS := Lib.hid hS
        clear hS hms
        have HSY := Lib.hid (dSync_any g g 0 S wr hd)
        have hgr := hd.lt
        have hl2s : l2.length = n2 := by have := hs3.1; simpa using this
        clear hd
        go_wp2_with (go_at_call 14; refine HSY.out.mono ?_; rintro e w4 ⟨rfl, hd4, hb4⟩)
        have hb4' := hbel.trans (hb4.mono hgw)
        have hs4 : Sees w4 w.heap.size A2 n2 (cbs l2) := HS2.out.below hb4'
        have hwf : writeF S l2 = (S ++ l2, 0) := by unfold writeF; rw [if_neg (by omega)]
        have HWR := Lib.hid (dWrite_any g g S.length S A2 n2 c2 l2 w4 hd4 (hs4.more hb4'.size) (by omega) (by have := hd4.lt; omega) (by omega))
        rw [hwf] at HWR
        clear hd4 hwf HSY hs3 hs4 hb4 hbel
        go_wp2_with (go_at_call 21; refine HWR.out.mono ?_; rintro e w5 ⟨rfl, hd5, hb5⟩)
        have hb5' := hb4'.trans (hb5.mono hgw)
        clear hb5 hb4' HWR
        go_wp2_with fail
        refine (dLen_any g g S.length (S ++ l2) w5 hd5).mono ?_
        rintro e w' ⟨rfl, rfl⟩
        have hSp : ¬ ((S.length : Nat) : Int) = 0 := by omega
        have hSlen : (S.length : Int) ≤ 6180 := by omega
        go_wp2_with (go_at_call 20; refine (dSynced_any g g S.length (S ++ l2) w' hd5).mono ?_; rintro e w' ⟨rfl, rfl⟩)
        obtain ⟨i, hi, hiS⟩ : ∃ i : Nat, wrap64 ((IntKind.u64.wrap at_).tmod (S.length : Int)) = (i : Int) ∧ i < S.length := by
          have h1 : 0 ≤ IntKind.u64.wrap at_ := by rw [IntKind.wrap_u64]; omega
          rw [Int.tmod_eq_emod_of_nonneg h1]
          have h2 := Int.emod_nonneg (IntKind.u64.wrap at_) hSp
          have h3 := Int.emod_lt_of_pos (IntKind.u64.wrap at_) (show (0 : Int) < (S.length : Int) by omega)
          generalize IntKind.u64.wrap at_ % (S.length : Int) = z at *
          exact ⟨z.toNat, by unfold wrap64; omega, by omega⟩
        rw [hi]
        have hsf : spoilF (S ++ l2) S.length (i : Int) y = (turn (S ++ l2) i y, 0) := by
          unfold spoilF
          rw [if_neg (by omega)]
          simp
        have hends := spoilt_ends ms HRT.out l2 i y (by rw [HSS.out]; exact hiS) HY.out
        rw [HSS.out] at hends
        have hTl : (turn (S ++ l2) i y).length = S.length + n2 := by rw [turn_length, List.length_append, hl2s]
        refine (dSpoil_any g g S.length (S ++ l2) (i : Int) y w' hd5).mono ?_
        rw [hsf]
        rintro e w6 ⟨rfl, hd6, hb6⟩
        simp only at hd6
        have hb6' := hb5'.trans (hb6.mono hgw)
        have HTL := Lib.hid hTl
        have HEN := Lib.hid hends
        clear hsf hd5 hb5' hb6 hTl hends hi
        generalize turn (S ++ l2) i y = T at *
        go_wp2_with fail
        refine (wrecover_bad g g S.length T w6 hd6 (by rw [HTL.out]; omega) HEN.out).mono ?_
        rintro e w7 ⟨rfl, hd7, hb7⟩
        have HLN := Lib.hid (dLen_any g g S.length T w7 hd7)
        rw [HTL.out, Int.natCast_add] at HLN
        go_wp2_with (go_at_call 19; refine HLN.out.mono ?_; rintro e w'' ⟨rfl, rfl⟩)
        go_ret
        exact ⟨rfl, bthen hb6' hb7⟩
  · have HG := Lib.hid hgood
    clear hgood hr hrn hrc hs2
    have hcase : n = 0 ∨ (n ≠ 0 ∧ 20 < n) ∨ (n ≠ 0 ∧ n ≤ 20 ∧ 300 < n2) ∨ (n ≠ 0 ∧ n ≤ 20 ∧ n2 ≤ 300 ∧ y = 0) := by
      have := HG.out
      by_cases h1 : n = 0
      · exact .inl h1
      by_cases h2 : 20 < n
      · exact .inr (.inl ⟨h1, h2⟩)
      by_cases h3 : 300 < n2
      · exact .inr (.inr (.inl ⟨h1, by omega, h3⟩))
      by_cases h4 : y = 0
      · exact .inr (.inr (.inr ⟨h1, by omega, by omega, h4⟩))
      · exact absurd ⟨⟨by omega, by omega⟩, by omega, h4⟩ this
    rcases hcase with h1 | ⟨h1, h2⟩ | ⟨h1, h2, h3⟩ | ⟨h1, h2, h3, h4⟩
    · have hg5 : ((n : Int) == 0) = true := by rw [beq_iff_eq]; omega
      go_enter Try.func5, Try.ntmps5
      go_wp2_with fail
      refine (fixed5_any _).mono ?_
      rintro e w1 ⟨rfl, hb1⟩
      go_wp2_with fail
      go_ret
      exact ⟨rfl, hb1⟩
    · have hg5 : ((n : Int) == 0) = false := by rw [beq_eq_false_iff_ne]; omega
      have hg2 : (20 : Int) < (n : Int) := by omega
      go_enter Try.func5, Try.ntmps5
      go_wp2_with fail
      refine (fixed5_any _).mono ?_
      rintro e w1 ⟨rfl, hb1⟩
      go_wp2_with fail
      go_ret
      exact ⟨rfl, hb1⟩
    · have hg5 : ((n : Int) == 0) = false := by rw [beq_eq_false_iff_ne]; omega
      have hg2 : ¬ (20 : Int) < (n : Int) := by omega
      have hg3 : (300 : Int) < (n2 : Int) := by omega
      go_enter Try.func5, Try.ntmps5
      go_wp2_with fail
      refine (fixed5_any _).mono ?_
      rintro e w1 ⟨rfl, hb1⟩
      go_wp2_with fail
      go_ret
      exact ⟨rfl, hb1⟩
    · have hg5 : ((n : Int) == 0) = false := by rw [beq_eq_false_iff_ne]; omega
      have hg2 : ¬ (20 : Int) < (n : Int) := by omega
      have hg3 : ¬ (300 : Int) < (n2 : Int) := by omega
      have hg4 : ((y.toNat : Int) == 0) = true := by rw [u8_zero]; exact decide_eq_true h4
      go_enter Try.func5, Try.ntmps5
      go_wp2_with fail
      refine (fixed5_any _).mono ?_
      rintro e w1 ⟨rfl, hb1⟩
      go_wp2_with fail
      go_ret
      exact ⟨rfl, hb1⟩

set_option maxRecDepth 100000 in
theorem lifted (os : Os) (started : os.Started) (H : Type) (enc : TypeId × Value → H) :
    ReturnsInHanded {} Try.checked os 5 .any (Rows.walSpoiltSpec.pre6 enc Try.prog Try.f5 Rows.walSpoiltRow.domain false) (Rows.walSpoiltSpec.post enc Try.prog Try.f5 false true false false) := by
  refine returnsInHanded_of_change (C := Try.checked) own started (by kernel_rfl) Try.func5
    (ChangeSpec.witness6 (enc := enc) (C := Try.checked) false ⟨#[], #[.slice none 0 0, .slice none 0 0, .int .i64 0, .int .u8 0], []⟩ 8 (by kernel_rfl) (by kernel_rfl) (by kernel_rfl) (by kernel_rfl)) ?_
  intro W base args ds gs before hval0 hW hcnd _
  have hval : ∀ (j : Nat) t v, Try.f5.params[j]? = some t → args[j]? = some v → Value.okWide Try.prog W .any base t v := hval0
  have hW' := hW
  obtain ⟨p, q, hA0, hV, rfl, hfz, hnd⟩ := hW
  have hA : DataW.TrodAll enc Try.prog W 0 (fun _ => true) true Try.f5.params.toList args.toList ds p := hA0
  rw [Try.params5] at hA hval
  obtain ⟨v0, vs0, d0, ds0, p0, q0, hargs, rfl, rfl, h0, r0⟩ := trodAll_cons hA
  obtain ⟨v1, vs1, d1, ds1, p1, q1, rfl, rfl, rfl, h1, r1⟩ := trodAll_cons r0
  obtain ⟨v2, vs2, d2, ds2, p2, q2, rfl, rfl, rfl, h2, r2⟩ := trodAll_cons r1
  obtain ⟨v3, vs3, d3, ds3, p3, q3, rfl, rfl, rfl, h3, r3⟩ := trodAll_cons r2
  obtain ⟨rfl, rfl, rfl⟩ := trodAll_nil r3
  obtain rfl : args = #[v0, v1, v2, v3] := by cases args; simp_all
  obtain ⟨rfl, rfl⟩ := trodVars_none hV
  obtain ⟨a0, len0, cap0, rfl⟩ := okWide_slice Try.underlying26 (hval 0 26 v0 rfl rfl)
  obtain ⟨a1, len1, cap1, rfl⟩ := okWide_slice Try.underlying22 (hval 1 22 v1 rfl rfl)
  have k0 := h0
  have lt0 : ∀ x ∈ p0, x.block < W.heap.size := by obtain ⟨m, hm⟩ := k0; exact DataW.trod_lt m _ _ _ hm
  have k1 := h1
  have lt1 : ∀ x ∈ p1, x.block < W.heap.size := by obtain ⟨m, hm⟩ := k1; exact DataW.trod_lt m _ _ _ hm
  obtain ⟨i2, rfl, rfl, rfl, w2⟩ := open_int Try.underlying3 (hval 2 3 v2 rfl rfl) h2
  obtain ⟨i3, rfl, rfl, rfl, w3⟩ := open_int Try.underlying5 (hval 3 5 v3 rfl rfl) h3
  obtain ⟨m0, h0⟩ := h0
  obtain ⟨m1, h1⟩ := h1
  obtain ⟨hl0, hc0, rs, hrn, hrs, hrc⟩ := open_recs h0
  obtain ⟨hl1, hc1, l, hs⟩ := open_bytes Try.underlying22 Try.underlying5 u8_cells' h1
  obtain ⟨y, hy⟩ : ∃ y : UInt8, i3 = (y.toNat : Int) := ⟨UInt8.ofNat i3.toNat, by have := bounds_u8 w3; rw [UInt8.toNat_ofNat']; omega⟩
  subst hy
  clear hA0 hval0
  refine (walk a0 cap0 rs len0 a1 len1 cap1 l i2 y W hrs hrn hrc hl0 hc0 hs hl1 hc1).mono fun e W' ⟨he, bel⟩ => ?_
  subst he
  exact ⟨_, rfl, _, _, _, [], _, [], hW', trodAll_mk1 (shut_bool Try.underlying4 _), (trodAll_cons_mk (Below.trod laidOut (by kernel_rfl) (of_decide_eq_true (by kernel_rfl)) k0 bel lt0) (trodAll_cons_mk (Below.trod laidOut (by kernel_rfl) (of_decide_eq_true (by kernel_rfl)) k1 bel lt1) (trodAll_cons_mk (shut_int Try.underlying3 w2) (trodAll_cons_mk (shut_int Try.underlying5 w3) trodAll_mk0)))), rfl, bel.frame _, fun h => by cases h⟩

theorem over : Rows.walSpoiltRow.holds Try.pinned (OpenSpec.ofChange Rows.walSpoiltSpec) :=
  OpenClaim.holds_of_wide 5 Try.f5 rfl rfl rfl rfl rfl rfl rfl ⟨rfl, rfl, rfl, rfl, rfl⟩ rfl rfl rfl rfl rfl (by kernel_rfl) Try.func5 (by kernel_rfl)
    (of_decide_eq_true (by kernel_rfl)) (by unfold Func.isWrapper; first | (rw [if_pos (by decide +kernel)]; kernel_rfl) | (rw [if_neg (by decide +kernel)]; exact ⟨rfl, rfl⟩))
    (fun os started H enc _ => lifted os started H enc)

theorem proved : Rows.WalSpoiltSaid :=
  over
#print axioms proved
end Go.Proofs.Ytjmpokaifnhnmaa.walSpoilt
