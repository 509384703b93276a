/- FrameReads: what any bytes tell, one frame, all of them, or all there are, is the document's. For every input, without a condition. -/
import Derived.Test.YtnbkphdkpncjfaaRows
import Derived.Test.YtnbkphdkpncjfaaFix3
import Derived.Test.YtnbkphdkpncjfaaOpen2
import Derived.ProofKit
import Derived.OpenShut
namespace Go.Proofs.Ytnbkphdkpncjfaa.frameReads
open Go.ChangeShapes Go.WideShapes Go.ChangeAt Go.RowKit
set_option linter.unusedVariables false

theorem own : ownKnob Try.prog.godebug = none := by kernel_rfl
theorem laidOut : laidOutB Try.prog = true := by kernel_rfl

theorem allF_len (f : Nat) : ∀ b, (allF f b).1.length ≤ f := by
  induction f with
  | zero => intro b; simp [allF]
  | succ f ih =>
    intro b
    unfold allF
    split
    · simp
    · split
      · simp
      · have := ih (b.drop (takeF b).n)
        simp only [List.length_cons]
        omega

set_option maxRecDepth 100000 in
set_option maxHeartbeats 1600000 in
theorem walk (A : Option Addr) (n c : Nat) (l : List UInt8) (w : World) (hs : Sees w w.heap.size A n (cbs l)) (hc : n ≤ c) (hm : c ≤ maxLen) :
    Calls Try.prog 9 #[.slice A n c] w fun e w' => e = .returned (.bool true) ∧ Below w.heap.size w w' := by
  have hm9 : c ≤ 9223372036854775807 := hm
  by_cases hz1 : 700 < n
  · have hz2 : (700 : Int) < (n : Int) := by omega
    go_enter Try.func9, Try.ntmps9
    go_wp2_with fail
    refine (fixed3_any _).mono ?_
    rintro e w1 ⟨rfl, hb1⟩
    go_wp2_with fail
    go_ret
    exact ⟨rfl, hb1⟩
  · have hz2 : ¬ (700 : Int) < (n : Int) := by omega
    have hlen : l.length = n := by have := hs.1; simpa using this
    have hn47 : n ≤ 140737488355328 := by omega
    have hn40 : n ≤ 1099511627776 := by omega
    have hal := allF_len l.length l
    have HW := Lib.hid (show wholeF l = if (takeF l).e ≠ 0 then ([], (takeF l).e) else if (takeF l).n < n then ([], 2) else ((takeF l).p, 0) by rw [← hlen]; rfl)
    have HN := Lib.hid (takeF_none l)
    have HM := Lib.hid hm
    rw [hlen] at hal
    have hLL : allF l.length l = allF n l := by rw [hlen]
    rw [hlen] at hLL
    clear hm hm9
    go_enter Try.func9, Try.ntmps9
    go_wp2_with fail
    refine (fixed3_any _).mono ?_
    rintro e w1 ⟨rfl, hb1⟩
    have hs1 := hs.on hb1
    clear hs
    have HLEN := Lib.hid hlen
    clear hlen hLL
    go_wp2_with fail
    refine (take_any A n c l _ w1 hs1 (Nat.le_refl _) hc HM.out hn47).mono ?_
    rintro e w2 ⟨A2, c2, rfl, hf2, hb2⟩
    have hs2 := hs1.on hb2
    have hbw := bthen hb1 hb2
    clear hb1 hb2 hs1
    go_wp2_with fail
    refine (refTake_any A n c l _ w2 hs2 (Nat.le_refl _) hc HM.out hn47).mono ?_
    rintro e w3 ⟨A3, c3, rfl, hf3, hb3⟩
    have hs3 := hs2.on hb3
    have hf2 := hf2.on hb3
    have hbw := bthen hbw hb3
    clear hb3 hs2
    go_wp2_with fail
    refine (all_any A n c l w3 hs3 hc HM.out hn40).mono ?_
    rintro e w4 ⟨A4, c4, ps, rfl, hps, hr4, hb4⟩
    have hs4 := hs3.on hb4
    have hf2 := hf2.on hb4
    have hf3 := hf3.on hb4
    have hbw := bthen hbw hb4
    clear hb4 hs3
    go_wp2_with fail
    refine (refAll_any A n c l w4 hs4 hc HM.out hn40).mono ?_
    rintro e w5 ⟨A5, c5, qs, rfl, hqs, hr5, hb5⟩
    have hs5 := hs4.on hb5
    have hf2 := hf2.on hb5
    have hf3 := hf3.on hb5
    have hr4 := hr4.on hb5
    have hbw := bthen hbw hb5
    clear hb5 hs4
    go_wp2_with fail
    refine (whole_any A n c l _ w5 hs5 (Nat.le_refl _) hc HM.out hn47).mono ?_
    rintro e w6 ⟨A6, c6, rfl, hf6, hb6⟩
    have hf2 := hf2.on hb6
    have hf3 := hf3.on hb6
    have hr4 := hr4.on hb6
    have hr5 := hr5.on hb6
    have hbw := bthen hbw hb6
    have hpl : ps.length ≤ 1099511627776 := by
      have h1 := congrArg List.length hps
      rw [List.length_map, HLEN.out] at h1
      omega
    have hpq : ps.map (·.l) = qs.map (·.l) := hps.trans hqs.symm
    have HSA := Lib.hid (same_any _ _ A4 A5 c4 c5 ps qs w6 hr4 hr5 hpq hpl)
    clear hb6 hs5 hps hqs hpl hpq hr4 hr5 hal HLEN
    generalize allF l.length l = R at *
    generalize wholeF l = W at *
    generalize takeF l = T at *
    obtain ⟨p, k, E⟩ := T
    obtain ⟨wp, we⟩ := W
    obtain ⟨r1, r2, r3⟩ := R
    simp only at hf2 hf3 hf6 HW HN
    have hcv2 := conv_sees' w6 _ A2 p.length c2 p hf2.sees
    have hcv3 := conv_sees' w6 _ A3 p.length c3 p hf3.sees
    have HF2 := Lib.hid hf2
    have HF3 := Lib.hid hf3
    have HF6 := Lib.hid hf6
    clear hf2 hf3 hf6
    by_cases hE : E = 0
    · subst hE
      have hE0 : ((0 : Nat) : Int) = 0 := rfl
      by_cases hk : k < n
      · have hk' : (k : Int) < (n : Int) := by omega
        have hW := HW.out
        rw [if_neg (by simp), if_pos hk] at hW
        injection hW with hw1 hw2
        subst hw1
        subst hw2
        clear HW HN
        go_wp2_with (go_at_call 47; refine HSA.out.mono ?_; rintro e w7 ⟨rfl, hb7⟩)
        go_ret
        exact ⟨rfl, bthen hbw hb7⟩
      · have hk' : ¬ (k : Int) < (n : Int) := by omega
        have hW := HW.out
        rw [if_neg (by simp), if_neg hk] at hW
        injection hW with hw1 hw2
        subst hw1
        subst hw2
        clear HW HN
        go_wp2_with (go_at_call 47; refine HSA.out.mono ?_; rintro e w7 ⟨rfl, hb7⟩; have hcv6 := conv_sees' w7 _ A6 wp.length c6 wp (HF6.out.on hb7).sees; have hcv7 := conv_sees' w7 _ A2 wp.length c2 wp (HF2.out.on hb7).sees)
        go_ret
        exact ⟨rfl, bthen hbw hb7⟩
    · have hE' : ¬ (E : Int) = 0 := by omega
      have hE2 : ((E : Int) == 0) = false := by rw [beq_eq_false_iff_ne]; exact hE'
      have hW := HW.out
      rw [if_pos hE] at hW
      injection hW with hw1 hw2
      have hN := HN.out hE
      obtain ⟨hp0, hk0⟩ := hN
      subst hw1
      subst hw2
      subst hp0
      subst hk0
      have hd2 := conv_sees' w6 _ A2 0 c2 [] HF2.out.sees
      have hd3 := conv_sees' w6 _ A3 0 c3 [] HF3.out.sees
      clear HW HN hcv2 hcv3
      go_wp2_with (go_at_call 47; refine HSA.out.mono ?_; rintro e w7 ⟨rfl, hb7⟩; have hcv6 := conv_sees' w7 _ A6 0 c6 [] (HF6.out.on hb7).sees; have hcv7 := conv_sees' w7 _ A2 0 c2 [] (HF2.out.on hb7).sees)
      go_ret
      exact ⟨rfl, bthen hbw hb7⟩

set_option maxRecDepth 100000 in
theorem lifted (os : Os) (started : os.Started) (H : Type) (enc : TypeId × Value → H) :
    ReturnsInHanded {} Try.checked os 9 .any (Rows.frameReadsSpec.pre6 enc Try.prog Try.f9 Rows.frameReadsRow.domain false) (Rows.frameReadsSpec.post enc Try.prog Try.f9 false true false false) := by
  refine returnsInHanded_of_change (C := Try.checked) own started (by kernel_rfl) Try.func9
    (ChangeSpec.witness6 (enc := enc) (C := Try.checked) false ⟨#[], #[.slice none 0 0], []⟩ 8 (by kernel_rfl) (by kernel_rfl) (by kernel_rfl) (by kernel_rfl)) ?_
  intro W base args ds gs before hval0 hW hcnd _
  have hval : ∀ (j : Nat) t v, Try.f9.params[j]? = some t → args[j]? = some v → Value.okWide Try.prog W .any base t v := hval0
  have hW' := hW
  obtain ⟨p, q, hA0, hV, rfl, hfz, hnd⟩ := hW
  have hA : DataW.TrodAll enc Try.prog W 0 (fun _ => true) true Try.f9.params.toList args.toList ds p := hA0
  rw [Try.params9] at hA hval
  obtain ⟨v0, vs0, d0, ds0, p0, q0, hargs, rfl, rfl, h0, r0⟩ := trodAll_cons hA
  obtain ⟨rfl, rfl, rfl⟩ := trodAll_nil r0
  obtain rfl : args = #[v0] := by cases args; simp_all
  obtain ⟨rfl, rfl⟩ := trodVars_none hV
  obtain ⟨a0, len0, cap0, rfl⟩ := okWide_slice Try.underlying23 (hval 0 23 v0 rfl rfl)
  have k0 := h0
  have lt0 : ∀ x ∈ p0, x.block < W.heap.size := by obtain ⟨m, hm⟩ := k0; exact DataW.trod_lt m _ _ _ hm
  obtain ⟨m0, h0⟩ := h0
  obtain ⟨hl0, hc0, l, hs⟩ := open_bytes Try.underlying23 Try.underlying5 u8_cells' h0
  clear hA0 hval0
  refine (walk a0 len0 cap0 l W hs hl0 hc0).mono fun e W' ⟨he, bel⟩ => ?_
  subst he
  exact ⟨_, rfl, _, _, _, [], _, [], hW', trodAll_mk1 (shut_bool Try.underlying4 _), (trodAll_cons_mk (Below.trod laidOut (by kernel_rfl) (of_decide_eq_true (by kernel_rfl)) k0 bel lt0) trodAll_mk0), rfl, bel.frame _, fun h => by cases h⟩

theorem over : Rows.frameReadsRow.holds Try.pinned (OpenSpec.ofChange Rows.frameReadsSpec) :=
  OpenClaim.holds_of_wide 9 Try.f9 rfl rfl rfl rfl rfl rfl rfl ⟨rfl, rfl, rfl, rfl, rfl⟩ rfl rfl rfl rfl rfl (by kernel_rfl) Try.func9 (by kernel_rfl)
    (of_decide_eq_true (by kernel_rfl)) (by unfold Func.isWrapper; first | (rw [if_pos (by decide +kernel)]; kernel_rfl) | (rw [if_neg (by decide +kernel)]; exact ⟨rfl, rfl⟩))
    (fun os started H enc _ => lifted os started H enc)

theorem proved : Rows.FrameReadsSaid :=
  over
#print axioms proved
end Go.Proofs.Ytnbkphdkpncjfaa.frameReads
