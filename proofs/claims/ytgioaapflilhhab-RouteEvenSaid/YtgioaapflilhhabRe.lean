/- RouteEven: the splits of any keys into parts alike are the document's. For every input, without a condition. -/
import Derived.Test.YtgioaapflilhhabRows
import Derived.Test.YtgioaapflilhhabFixB
import Derived.Test.YtgioaapflilhhabRt6
import Derived.Test.YtgioaapflilhhabRt9
import Derived.Test.YtgioaapflilhhabOpen8
import Derived.ProofKit
import Derived.OpenShut
import Derived.ShutString
namespace Go.Proofs.Ytgioaapflilhhab.routeEven
open Go.ChangeShapes Go.WideShapes Go.ChangeAt Go.RowKit
open Go.ChangeMaps (open_string shut_string)
set_option linter.unusedVariables false

theorem own : ownKnob Try.prog.godebug = none := by kernel_rfl
theorem laidOut : laidOutB Try.prog = true := by kernel_rfl

set_option maxRecDepth 100000 in
set_option maxHeartbeats 6400000 in
theorem walk (A : Option Addr) (k c : Nat) (l : List ByteArray) (n : Int) (w : World) (hs : Sees w w.heap.size A k (txs l)) (hl : l.length = k) (hk : k ≤ maxLen) (hn : (Lit.int .i64 n).wf = true) :
    Calls Try.prog 5 #[.slice A k c, .int .i64 n] w fun e w' => e = .returned (.bool true) ∧ Below w.heap.size w w' := by
  subst hl
  have HS := Lib.hid hs
  have HK := Lib.hid hk
  unfold maxLen at hk
  clear hs hn
  go_enter Try.func5, Try.ntmps5
  go_wp2_with fail
  refine (fixedB_any w).mono ?_
  rintro e w1 ⟨rfl, hb1⟩
  have HS1 := Lib.hid (HS.out.on hb1)
  have HB1 := Lib.hid hb1
  clear hb1 HS
  go_wp2_with fail
  refine (few_any A l.length c l 60 w1 _ HS1.out HK.out).mono ?_
  rintro e w' ⟨rfl, rfl⟩
  cases hfew : fewF l 60 with
  | false =>
    go_wp2_with fail
    go_ret
    exact ⟨rfl, HB1.out⟩
  | true =>
    have h60 : l.length ≤ 60 := by
      unfold fewF at hfew
      simp only [Bool.and_eq_true, decide_eq_true_eq] at hfew
      omega
    have H60 := Lib.hid h60
    clear hfew h60 hk
    by_cases hbad : n < 1 ∨ 8 < n
    · have HEB := Lib.hid (even_bad A l.length c n w' hbad)
      rcases (show n < 1 ∨ (¬ n < 1 ∧ 8 < n) by omega) with h1 | ⟨h1, h2⟩
      all_goals
        clear hbad
        go_wp2_with fail
        refine HEB.out.mono ?_
        rintro e w2 ⟨rfl, rfl⟩
        go_wp2_with fail
        go_ret
        exact ⟨rfl, HB1.out⟩
    · obtain ⟨N, rfl⟩ : ∃ N : Nat, n = (N : Int) := ⟨n.toNat, by omega⟩
      have hN : 1 ≤ N ∧ N ≤ 8 := by omega
      have h1 : ¬ (N : Int) < 1 := by omega
      have h2 : ¬ (8 : Int) < (N : Int) := by omega
      have HN := Lib.hid hN
      clear hbad hN
      go_wp2_with fail
      refine (even_any A l.length c l N w' HS1.out (by have := H60.out; omega) HN.out).mono ?_
      rintro e w2 ⟨R, hri, hmem, h0, h9, hb2⟩
      have HB2 := Lib.hid (HB1.out.trans (hb2.mono HB1.out.size))
      have HS2 := Lib.hid (HS1.out.on hb2)
      have HRI := Lib.hid hri
      have HME := Lib.hid hmem
      have HRE := Lib.hid (refEven_any A l.length c l N w2 HS2.out (by have := H60.out; omega) HN.out)
      have HLE := Lib.hid (show (evenF R N (N - 1)).length ≤ 8 from Nat.le_trans (evenF_len R N (N - 1)) (by have := HN.out; omega))
      clear hri hmem hb2 HB1 HS1
      by_cases hr : rightF (evenF R N (N - 1)) = 0
      · obtain ⟨g, rfl, hm, _⟩ := h0 hr
        have HM2 := Lib.hid hm
        have HR := Lib.hid hr
        clear h0 h9 hm hr
        go_wp2_with fail
        refine HRE.out.mono ?_
        rintro e w3 ⟨R2, A3, c3, hri2, hmem2, he, hf3, hb3⟩
        have hRR : R2 = R := rises_eq R2 R hri2 HRI.out (fun x => (hmem2 x).trans (HME.out x).symm)
        rw [hRR] at he hf3
        subst he
        have hs3 := hf3.sees
        rw [Nat.mul_one] at hs3
        have HB3 := Lib.hid (HB2.out.trans (hb3.mono HB2.out.size))
        have HM3 := Lib.hid (HM2.out.on hb3)
        have HS3 := Lib.hid hs3
        clear hri2 hmem2 hRR hf3 hs3 hb3 HB2 HM2 HRE
        generalize evenF R N (N - 1) = P at *
        have HRT := Lib.hid (right_any A3 P.length c3 P w3 _ HS3.out (Nat.le_trans HLE.out (by decide)))
        rw [HR.out] at HRT
        go_wp2_with fail
        refine HRT.out.mono ?_
        rintro e w4 ⟨rfl, hb⟩
        have HB4 := Lib.hid (HB3.out.trans (hb.mono HB3.out.size))
        have HM4 := Lib.hid (HM3.out.on hb)
        have HS4 := Lib.hid (HS3.out.on hb)
        clear hb HB3 HM3 HS3 HRT
        go_wp2_with fail
        refine (splits_any g P w4 HM4.out (rightF_zero HR.out).1).mono ?_
        rintro e w5 ⟨A5, c5, rfl, hf, hb⟩
        have HB5 := Lib.hid (HB4.out.trans (hb.mono HB4.out.size))
        have HS5 := Lib.hid (HS4.out.on hb)
        have hs5 := hf.sees
        rw [Nat.mul_one] at hs5
        have hsa := same_any A5 P.length c5 P A3 P.length c3 P w5 _ _ hs5 HS5.out (Nat.le_trans HLE.out (by decide))
        rw [decide_eq_true (show P = P from rfl)] at hsa
        have HSA := Lib.hid hsa
        clear hf hb hs5 hsa HB4 HM4 HS4
        go_wp2_with fail
        refine HSA.out.mono ?_
        rintro e w6 ⟨rfl, hb⟩
        have HB6 := Lib.hid (HB5.out.trans (hb.mono HB5.out.size))
        clear hb HB5
        go_wp2_with fail
        go_ret
        exact ⟨rfl, HB6.out⟩
      · have he := h9 hr
        obtain ⟨E, hE⟩ : ∃ E, rightF (evenF R N (N - 1)) = E := ⟨_, rfl⟩
        rw [hE] at he hr
        subst he
        have HE := Lib.hid hE
        have hr1 : (E == 0) = false := by simp [hr]
        have hr2 : (E != 0) = true := by simp [hr]
        clear h0 h9 hr hE
        go_wp2_with fail
        refine HRE.out.mono ?_
        rintro e w3 ⟨R2, A3, c3, hri2, hmem2, he, hf3, hb3⟩
        have hRR : R2 = R := rises_eq R2 R hri2 HRI.out (fun x => (hmem2 x).trans (HME.out x).symm)
        rw [hRR] at he hf3
        subst he
        have hs3 := hf3.sees
        rw [Nat.mul_one] at hs3
        have HB3 := Lib.hid (HB2.out.trans (hb3.mono HB2.out.size))
        have HS3 := Lib.hid hs3
        clear hri2 hmem2 hRR hf3 hs3 hb3 HB2 HRE
        generalize evenF R N (N - 1) = P at *
        have HRT := Lib.hid (right_any A3 P.length c3 P w3 _ HS3.out (Nat.le_trans HLE.out (by decide)))
        rw [HE.out] at HRT
        go_wp2_with fail
        refine HRT.out.mono ?_
        rintro e w4 ⟨rfl, hb⟩
        have HB4 := Lib.hid (HB3.out.trans (hb.mono HB3.out.size))
        clear hb HB3 HRT
        go_wp2_with fail
        go_ret
        exact ⟨rfl, HB4.out⟩

set_option maxRecDepth 100000 in
theorem lifted (os : Os) (started : os.Started) (H : Type) (enc : TypeId × Value → H) :
    ReturnsInHanded {} Try.checked os 5 .any (Rows.routeEvenSpec.pre6 enc Try.prog Try.f5 Rows.routeEvenRow.domain false) (Rows.routeEvenSpec.post enc Try.prog Try.f5 false true false false) := by
  refine returnsInHanded_of_change (C := Try.checked) own started (by kernel_rfl) Try.func5
    (ChangeSpec.witness6 (enc := enc) (C := Try.checked) false ⟨#[], #[.slice none 0 0, .int .i64 0], []⟩ 8 (by kernel_rfl) (by kernel_rfl) (by kernel_rfl) (by kernel_rfl)) ?_
  intro W base args ds gs before hval0 hW hcnd _
  have hval : ∀ (j : Nat) t v, Try.f5.params[j]? = some t → args[j]? = some v → Value.okWide Try.prog W .any base t v := hval0
  have hW' := hW
  obtain ⟨p, q, hA0, hV, rfl, hfz, hnd⟩ := hW
  have hA : DataW.TrodAll enc Try.prog W 0 (fun _ => true) true Try.f5.params.toList args.toList ds p := hA0
  rw [Try.params5] at hA hval
  obtain ⟨v0, vs0, d0, ds0, p0, q0, hargs, rfl, rfl, h0, r0⟩ := trodAll_cons hA
  obtain ⟨v1, vs1, d1, ds1, p1, q1, rfl, rfl, rfl, h1, r1⟩ := trodAll_cons r0
  obtain ⟨rfl, rfl, rfl⟩ := trodAll_nil r1
  obtain rfl : args = #[v0, v1] := by cases args; simp_all
  obtain ⟨rfl, rfl⟩ := trodVars_none hV
  obtain ⟨a0, len0, cap0, rfl⟩ := okWide_slice Try.underlying22 (hval 0 22 v0 rfl rfl)
  have k0 := h0
  have lt0 : ∀ x ∈ p0, x.block < W.heap.size := by obtain ⟨m, hm⟩ := k0; exact DataW.trod_lt m _ _ _ hm
  obtain ⟨m0, h0⟩ := h0
  obtain ⟨hl0, hc0, x0, hll0, hs0⟩ := open_strs h0
  obtain ⟨a1, rfl, rfl, rfl, w1⟩ := open_int Try.underlying3 (hval 1 3 v1 rfl rfl) h1
  clear hA0 hval0
  try simp only [List.append_nil] at hW'
  try simp only [List.nil_append] at hW'
  refine (walk a0 len0 cap0 x0 a1 W hs0 hll0 (Nat.le_trans hl0 hc0) w1).mono fun e W' ⟨he, bel⟩ => ?_
  subst he
  exact ⟨_, rfl, _, _, _, [], _, [], hW', trodAll_mk1 (shut_bool Try.underlying4 _), (trodAll_cons_mk (Below.trod laidOut (by kernel_rfl) (of_decide_eq_true (by kernel_rfl)) k0 bel lt0) (trodAll_cons_mk (shut_int Try.underlying3 w1) trodAll_mk0)), rfl, bel.frame _, fun h => by cases h⟩

theorem over : Rows.routeEvenRow.holds Try.pinned (OpenSpec.ofChange Rows.routeEvenSpec) :=
  OpenClaim.holds_of_wide 5 Try.f5 rfl rfl rfl rfl rfl rfl rfl ⟨rfl, rfl, rfl, rfl, rfl⟩ rfl rfl rfl rfl rfl (by kernel_rfl) Try.func5 (by kernel_rfl)
    (of_decide_eq_true (by kernel_rfl)) (by unfold Func.isWrapper; first | (rw [if_pos (by decide +kernel)]; kernel_rfl) | (rw [if_neg (by decide +kernel)]; exact ⟨rfl, rfl⟩))
    (fun os started H enc _ => lifted os started H enc)

theorem proved : Rows.RouteEvenSaid :=
  over
#print axioms proved
end Go.Proofs.Ytgioaapflilhhab.routeEven
