/- WalReads: which records any bytes tell, up to where, and why not more, is the document's. For every input, without a condition. -/
import Derived.Test.YtjmpokaifnhnmaaRows
import Derived.Test.YtjmpokaifnhnmaaFix5
import Derived.Test.YtjmpokaifnhnmaaOpen2
import Derived.ProofKit
import Derived.OpenShut
import Derived.Lib.SmallJoins
namespace Go.Proofs.Ytjmpokaifnhnmaa.walReads
open Go.ChangeShapes Go.WideShapes Go.ChangeAt Go.RowKit Go.Joins
set_option linter.unusedVariables false

theorem own : ownKnob Try.prog.godebug = none := by kernel_rfl
theorem laidOut : laidOutB Try.prog = true := by kernel_rfl

theorem readB_short (b : List UInt8) : (readB b).1.length ≤ b.length := by
  obtain ⟨h1, h2, _⟩ := readB_inv _ b (Nat.le_refl _)
  have h3 := congrArg List.length h2
  rw [List.length_take] at h3
  have : ∀ rs : List RecM, rs.length ≤ (recsB rs).length := by
    intro rs
    induction rs with
    | nil => simp
    | cons r rs ih => rw [recsB_cons, List.length_append, List.length_cons, recB_length]; omega
  have := this (readB b).1
  omega

set_option maxRecDepth 100000 in
set_option maxHeartbeats 3200000 in
theorem walk (A : Option Addr) (n c : Nat) (l : List UInt8) (k : UInt8) (A2 : Option Addr) (n2 c2 : Nat) (l2 : List UInt8) (w : World) (hs : Sees w w.heap.size A n (cbs l)) (hc : n ≤ c) (hm : c ≤ maxLen) (hs2 : Sees w w.heap.size A2 n2 (cbs l2)) (hc2 : n2 ≤ c2) (hm2 : c2 ≤ maxLen) :
    Calls Try.prog 3 #[.slice A n c, .agg #[.int .u8 (k.toNat : Int), .slice A2 n2 c2]] w fun e w' => e = .returned (.bool true) ∧ Below w.heap.size w w' := by
  have hm9 : c ≤ 9223372036854775807 := hm
  have hm29 : c2 ≤ 9223372036854775807 := hm2
  have hb0 := (Below.refl w.heap.size w).alloc (Nat.le_refl _) (.cells #[.int .u8 (k.toNat : Int), .slice A2 n2 c2] 24)
  have hA0 := Blk.new w 24 #[.int .u8 (k.toNat : Int), .slice A2 n2 c2]
  by_cases hz1 : 700 < n
  · have hz2 : (700 : Int) < (n : Int) := by omega
    clear hA0
    go_enter Try.func3, Try.ntmps3
    go_wp2_with fail
    refine (fixed5_any _).mono ?_
    rintro e w1 ⟨rfl, hb1⟩
    have hb2 := bthen hb0 hb1
    clear hb0 hb1
    go_wp2_with fail
    go_ret
    exact ⟨rfl, hb2⟩
  · have hz2 : ¬ (700 : Int) < (n : Int) := by omega
    by_cases hy1 : 5000 < n2
    · have hy2 : (5000 : Int) < (n2 : Int) := by omega
      go_enter Try.func3, Try.ntmps3
      go_wp2_with fail
      refine (fixed5_any _).mono ?_
      rintro e w1 ⟨rfl, hb1⟩
      have hb2 := bthen hb0 hb1
      have hA1 := hA0.below hb1 hA0.lt
      have c1 : w1.cell? ⟨w.heap.size, 1, none⟩ = some (.slice A2 n2 c2) := by rw [hA1.cell]; rfl
      clear hb0 hb1 hA0 hA1
      go_wp2_with fail
      go_ret
      exact ⟨rfl, hb2⟩
    · have hy2 : ¬ (5000 : Int) < (n2 : Int) := by omega
      have hlen : l.length = n := by have := hs.1; simpa using this
      have hlen2 : l2.length = n2 := by have := hs2.1; simpa using this
      have hn40 : n ≤ 1099511627776 := by omega
      have hrl := readB_short l
      rw [hlen] at hrl
      have HLEN2 := Lib.hid hlen2
      have HM := Lib.hid hm
      have hs0 := hs.past (.cells #[.int .u8 (k.toNat : Int), .slice A2 n2 c2] 24)
      have hs20 := hs2.past (.cells #[.int .u8 (k.toNat : Int), .slice A2 n2 c2] 24)
      clear hm hm2 hm9 hm29 hlen hlen2 hs hs2
      go_enter Try.func3, Try.ntmps3
      go_wp2_with fail
      generalize w.alloc (.cells #[.int .u8 (k.toNat : Int), .slice A2 n2 c2] 24) = w0 at *
      refine (fixed5_any _).mono ?_
      rintro e w1 ⟨rfl, hb1⟩
      have hbw := bthen hb0 hb1
      have hs1 := hs0.on hb1
      have hs21 := hs20.on hb1
      have hA1 := hA0.below hb1 hA0.lt
      have c1 : w1.cell? ⟨w.heap.size, 1, none⟩ = some (.slice A2 n2 c2) := by rw [hA1.cell]; rfl
      clear hb0 hb1 hs0 hs20 hA0
      go_wp2_with fail
      refine (wread_any A n c l w1 hs1 hc HM.out hn40).mono ?_
      rintro e w2 ⟨A3, c3, rs, rfl, hrs, hrf, hb2⟩
      have hs22 := hs21.on hb2
      have hs12 := hs1.on hb2
      have hA2 := hA1.below hb2 hA1.lt
      have hbw := bthen hbw hb2
      clear hs1 hs21 hA1 hb2 c1
      go_wp2_with fail
      refine (refRead_any A n c l w2 hs12 hc HM.out hn40).mono ?_
      rintro e w3 ⟨A4, c4, rfl, hown, hb3⟩
      have hs23 := hs22.on hb3
      have hrf3 := hrf.on hb3
      have hA3 := hA2.below hb3 hA2.lt
      have hbw := bthen hbw hb3
      clear hs12 hs22 hA2 hb3 hrf
      have hrl' : rs.length = (readB l).1.length := by rw [← hrs, List.length_map]
      have HSA := Lib.hid (same5_any _ _ A3 A4 (readB l).1.length c3 c4 rs (readB l).1 w3 hrf3.recs (sees_own hown) hrs hrl' (by omega) (Nat.le_refl _) (Nat.le_refl _))
      have HRL := Lib.hid hrl'
      clear hrf3 hown hrs hrl'
      rw [HRL.out]
      generalize readB l = R at *
      obtain ⟨R1, R2, R3⟩ := R
      simp only at HSA ⊢
      have c0 : ∀ (W : World), Below w3.heap.size w3 W → W.cell? ⟨w.heap.size, 0, none⟩ = some (.int .u8 (k.toNat : Int)) ∧ W.cell? ⟨w.heap.size, 1, none⟩ = some (.slice A2 n2 c2) := fun W hW => by
        have := hA3.below hW hA3.lt
        exact ⟨by rw [this.cell]; rfl, by rw [this.cell]; rfl⟩
      have HC0 := Lib.hid c0
      have HGL := Lib.hid hA3.lt
      clear c0 hA3
      go_wp2_with (go_at_call 9; refine HSA.out.mono ?_; rintro e w4 ⟨rfl, hb4⟩; obtain ⟨c0, c1⟩ := HC0.out w4 hb4)
      have hb5 := bthen hbw hb4
      have hs24 := hs23.on hb4
      have HB4 := Lib.hid hb4
      clear c0 c1 hs23 hbw hb4 HSA
      by_cases hright : k ≠ 0 ∧ n2 < 4096
      · have hrb : rightB (k, l2) = true := by unfold rightB; rw [HLEN2.out]; simp [hright.1, hright.2]
        have hbf : bytesF (k, l2) = (recB (k, l2), 0) := by
          unfold bytesF
          rw [if_neg hright.1, if_neg (by have := hright.2; have := HLEN2.out; simp only; omega)]
        refine (wbytes_any k A2 n2 c2 l2 w4 hs24).mono ?_
        intro e w5 h
        obtain ⟨A6, c6, rfl, hf6, hb6⟩ := h.at hbf rfl
        obtain ⟨c0, c1⟩ := HC0.out w5 (bthen HB4.out hb6)
        have hcv := tok_conv w5 _ A2 n2 c2 l2 (hs24.on hb6)
        have hb7 := bthen hb5 hb6
        clear h hbf hs24 hb6 hb5
        go_wp2_with fail
        have hP := Blk.new w5 37 #[.int .u8 (k.toNat : Int), .string (tok l2)]
        have hf6' := hf6.alloc (.cells #[.int .u8 (k.toNat : Int), .string (tok l2)] 37)
        have hb7' := hb7.alloc hb7.size (.cells #[.int .u8 (k.toNat : Int), .string (tok l2)] 37)
        clear hf6 hb7 hcv c0 c1
        generalize hG5 : w5.heap.size = G5 at *
        generalize w5.alloc (.cells #[.int .u8 (k.toNat : Int), .string (tok l2)] 37) = w6 at *
        refine (refRight_any (k, l2) w6).mono ?_
        rintro e w7 ⟨rfl, rfl⟩
        rw [hrb]
        have hP7 := hP.alloc (.cells #[.int .u8 (k.toNat : Int), .string (tok l2)] 37)
        have hf7 := hf6'.alloc (.cells #[.int .u8 (k.toNat : Int), .string (tok l2)] 37)
        have hb8 := hb7'.alloc hb7'.size (.cells #[.int .u8 (k.toNat : Int), .string (tok l2)] 37)
        clear hf6' hb7' hP
        generalize w6.alloc (.cells #[.int .u8 (k.toNat : Int), .string (tok l2)] 37) = w7 at *
        have p0 : w7.cell? ⟨G5, 0, none⟩ = some (.int .u8 (k.toNat : Int)) := by rw [hP7.cell]; rfl
        have p1 : w7.cell? ⟨G5, 1, none⟩ = some (.string (tok l2)) := by rw [hP7.cell]; rfl
        have hcv7 := tok_conv w7.drew _ A6 _ c6 _ hf7.sees.drew
        have hl2 : l2.length ≤ 35184372088832 := by have := HLEN2.out; omega
        go_wp2_with fail
        go_region_with (go_at_call 12; refine (refRBytes_any (k, l2) _ hl2).mono ?_; rintro e w9 ⟨A9, c9, rfl, hf9, hb9⟩; have hcv9 := tok_conv w9 _ A9 _ c9 _ hf9.sees; have hcv6 := tok_conv w9 _ A6 _ c6 _ ((hf7.drew).on hb9).sees; have hbF := bthen hb8.drew hb9)
        all_goals
          go_wp2_with fail
          go_ret
          exact ⟨rfl, hbF⟩
      · have hrb : rightB (k, l2) = false := by
          unfold rightB
          rw [HLEN2.out, Bool.and_eq_false_iff, decide_eq_false_iff_not, decide_eq_false_iff_not]
          by_cases hk : k = 0
          · exact .inl (fun h => h hk)
          · exact .inr (fun h => hright ⟨hk, h⟩)
        obtain ⟨f, hbf, hf0, hfk⟩ : ∃ f : Nat, bytesF (k, l2) = ([], f) ∧ 0 < f ∧ ((f : Int) == 1) = ((k.toNat : Int) == 0) := by
          rw [u8_zero]
          unfold bytesF
          by_cases hk : k = 0
          · exact ⟨1, by rw [if_pos hk], by omega, by simp [hk]⟩
          · exact ⟨4, by rw [if_neg hk, if_pos (by have := HLEN2.out; simp only; have : ¬ n2 < 4096 := fun h => hright ⟨hk, h⟩; omega)], by omega, by simp [hk]⟩
        refine (wbytes_any k A2 n2 c2 l2 w4 hs24).mono ?_
        intro e w5 h
        obtain ⟨A6, c6, rfl, hf6, hb6⟩ := h.at hbf (m := 0) rfl
        obtain ⟨c0, c1⟩ := HC0.out w5 (bthen HB4.out hb6)
        have hcv := tok_conv w5 _ A2 n2 c2 l2 (hs24.on hb6)
        have hb7 := bthen hb5 hb6
        have hfz : ¬ (f : Int) = 0 := by omega
        have hfz2 : ((f : Int) == 0) = false := by rw [beq_eq_false_iff_ne]; exact hfz
        have HB6 := Lib.hid hb6
        clear h hbf hs24 hb6 hb5
        go_wp2_with fail
        have hb7' := hb7.alloc hb7.size (.cells #[.int .u8 (k.toNat : Int), .string (tok l2)] 37)
        have hb67 := (bthen HB4.out HB6.out).alloc (bthen HB4.out HB6.out).size (.cells #[.int .u8 (k.toNat : Int), .string (tok l2)] 37)
        clear hf6 hb7 hcv c0 c1 HB6
        generalize w5.alloc (.cells #[.int .u8 (k.toNat : Int), .string (tok l2)] 37) = w6 at *
        refine (refRight_any (k, l2) w6).mono ?_
        rintro e w7 ⟨rfl, rfl⟩
        rw [hrb]
        obtain ⟨c0, c1⟩ := HC0.out _ (hb67.alloc hb67.size (.cells #[.int .u8 (k.toNat : Int), .string (tok l2)] 37))
        have hb8 := hb7'.alloc hb7'.size (.cells #[.int .u8 (k.toNat : Int), .string (tok l2)] 37)
        clear hb67 hb7'
        simp only at c0 c1 hb8 ⊢
        generalize w6.alloc (.cells #[.int .u8 (k.toNat : Int), .string (tok l2)] 37) = w7 at *
        obtain ⟨q, hq1, hq2⟩ : ∃ q, ((f : Int) == 1) = q ∧ ((k.toNat : Int) == 0) = q := ⟨_, hfk, rfl⟩
        clear hfk
        have hfz3 : ((f : Int) != 0) = true := by rw [bne, hfz2]; rfl
        cases q
        all_goals
          go_wp2_with fail
          go_ret
          exact ⟨rfl, hb8⟩

set_option maxRecDepth 100000 in
theorem lifted (os : Os) (started : os.Started) (H : Type) (enc : TypeId × Value → H) :
    ReturnsInHanded {} Try.checked os 3 .any (Rows.walReadsSpec.pre6 enc Try.prog Try.f3 Rows.walReadsRow.domain false) (Rows.walReadsSpec.post enc Try.prog Try.f3 false true false false) := by
  refine returnsInHanded_of_change (C := Try.checked) own started (by kernel_rfl) Try.func3
    (ChangeSpec.witness6 (enc := enc) (C := Try.checked) false ⟨#[], #[.slice none 0 0, .agg #[.int .u8 0, .slice none 0 0]], []⟩ 8 (by kernel_rfl) (by kernel_rfl) (by kernel_rfl) (by kernel_rfl)) ?_
  intro W base args ds gs before hval0 hW hcnd _
  have hval : ∀ (j : Nat) t v, Try.f3.params[j]? = some t → args[j]? = some v → Value.okWide Try.prog W .any base t v := hval0
  have hW' := hW
  obtain ⟨p, q, hA0, hV, rfl, hfz, hnd⟩ := hW
  have hA : DataW.TrodAll enc Try.prog W 0 (fun _ => true) true Try.f3.params.toList args.toList ds p := hA0
  rw [Try.params3] at hA hval
  obtain ⟨v0, vs0, d0, ds0, p0, q0, hargs, rfl, rfl, h0, r0⟩ := trodAll_cons hA
  obtain ⟨v1, vs1, d1, ds1, p1, q1, rfl, rfl, rfl, h1, r1⟩ := trodAll_cons r0
  obtain ⟨rfl, rfl, rfl⟩ := trodAll_nil r1
  obtain rfl : args = #[v0, v1] := by cases args; simp_all
  obtain ⟨rfl, rfl⟩ := trodVars_none hV
  obtain ⟨a0, len0, cap0, rfl⟩ := okWide_slice Try.underlying22 (hval 0 22 v0 rfl rfl)
  have k0 := h0
  have lt0 : ∀ x ∈ p0, x.block < W.heap.size := by obtain ⟨m, hm⟩ := k0; exact DataW.trod_lt m _ _ _ hm
  have k1 := h1
  have lt1 : ∀ x ∈ p1, x.block < W.heap.size := by obtain ⟨m, hm⟩ := k1; exact DataW.trod_lt m _ _ _ hm
  obtain ⟨m0, h0⟩ := h0
  obtain ⟨hl0, hc0, l, hs⟩ := open_bytes Try.underlying22 Try.underlying5 u8_cells' h0
  obtain ⟨c0, c1, y0, y1, m, rfl, _, _, hy0, hy1⟩ := open_agg2 Try.underlying24 (by kernel_rfl) (by kernel_rfl) (hval 1 24 v1 rfl rfl) h1
  obtain ⟨kz, e0, rfl, wk⟩ := DataW.trod_int Try.underlying5 hy0
  simp at e0
  subst e0
  have e1 : ∃ A nn cc, c1 = .slice A nn cc := by
    rcases Go.Deep.open_slice Try.underlying22 hy1 with ⟨h', _⟩ | ⟨a', l', c', _, _, _, _, h', _⟩
    · simp at h'
      exact ⟨_, _, _, h'⟩
    · simp at h'
      exact ⟨_, _, _, h'⟩
  obtain ⟨A2, n2, cc2, rfl⟩ := e1
  have f1 : DataW.trod enc Try.prog W 0 (fun _ => true) true m 22 (Value.slice A2 n2 cc2).cells.toList = some y1 := by simpa [Value.cells] using hy1
  obtain ⟨hnc, hcm, l2, hs2⟩ := open_bytes Try.underlying22 Try.underlying5 u8_cells' f1
  clear hA0 hval0
  obtain ⟨kb, hkb⟩ : ∃ kb : UInt8, kz = (kb.toNat : Int) := ⟨UInt8.ofNat kz.toNat, by have := bounds_u8 wk; rw [UInt8.toNat_ofNat']; omega⟩
  subst hkb
  refine (walk a0 len0 cap0 l kb A2 n2 cc2 l2 W hs hl0 hc0 hs2 hnc hcm).mono fun e W' ⟨he, bel⟩ => ?_
  subst he
  exact ⟨_, rfl, _, _, _, [], _, [], hW', trodAll_mk1 (shut_bool Try.underlying4 _), (trodAll_cons_mk (Below.trod laidOut (by kernel_rfl) (of_decide_eq_true (by kernel_rfl)) k0 bel lt0) (trodAll_cons_mk (Below.trod laidOut (by kernel_rfl) (of_decide_eq_true (by kernel_rfl)) k1 bel lt1) trodAll_mk0)), rfl, bel.frame _, fun h => by cases h⟩

theorem over : Rows.walReadsRow.holds Try.pinned (OpenSpec.ofChange Rows.walReadsSpec) :=
  OpenClaim.holds_of_wide 3 Try.f3 rfl rfl rfl rfl rfl rfl rfl ⟨rfl, rfl, rfl, rfl, rfl⟩ rfl rfl rfl rfl rfl (by kernel_rfl) Try.func3 (by kernel_rfl)
    (of_decide_eq_true (by kernel_rfl)) (by unfold Func.isWrapper; first | (rw [if_pos (by decide +kernel)]; kernel_rfl) | (rw [if_neg (by decide +kernel)]; exact ⟨rfl, rfl⟩))
    (fun os started H enc _ => lifted os started H enc)

theorem proved : Rows.WalReadsSaid :=
  over
#print axioms proved
end Go.Proofs.Ytjmpokaifnhnmaa.walReads
