/- NetFull: no more are under way than may be; what is one too many is lost. For every input, without a condition. -/
import Derived.Test.YtpgohajnohebnabRows
import Derived.Test.YtpgohajnohebnabFix9
import Derived.ProofKit
import Derived.OpenShut
namespace Go.Proofs.Ytpgohajnohebnab.netFull
open Go.ChangeShapes Go.WideShapes Go.ChangeAt Go.RowKit
set_option linter.unusedVariables false

theorem own : ownKnob Try.prog.godebug = none := by kernel_rfl
theorem laidOut : laidOutB Try.prog = true := by kernel_rfl

/-- the numbers below k -/
def upI (k : Nat) : List Int := (List.range k).map fun (j : Nat) => (j : Int)
theorem upI_len (k : Nat) : (upI k).length = k := by simp [upI]
theorem upI_send (i : Nat) : sendFi (upI (min i 512)) (i : Int) = (upI (min (i + 1) 512), if i < 512 then 0 else 7) := by
  unfold sendFi
  rw [upI_len]
  by_cases h : i < 512
  · rw [if_neg (by omega), if_pos h, show min (i + 1) 512 = i + 1 by omega, show min i 512 = i by omega]
    simp [upI, List.range_succ]
  · rw [if_pos (by omega), if_neg h, show min (i + 1) 512 = 512 by omega, show min i 512 = 512 by omega]
theorem upI_head (k : Nat) (hk : 0 < k) : ∃ r, upI k = 0 :: r ∧ r.length + 1 = k := by
  obtain ⟨q, rfl⟩ : ∃ q, k = q + 1 := ⟨k - 1, by omega⟩
  refine ⟨(List.range q).map (fun (j : Nat) => ((j + 1 : Nat) : Int)), ?_, by simp⟩
  simp [upI, List.range_succ_eq_map]
/-- what is under way behind the doubling -/
theorem dbl (k : Nat) (hk : 400 ≤ k) (hk2 : k ≤ 655) (r : List Int) (hr : r.length + 1 = min k 512) : (sendFi (0 :: r) 0).2 = (if 512 ≤ k then 7 else 0) ∧ ∃ r', (sendFi (0 :: r) 0).1 = 0 :: r' ∧ r'.length < 512 := by
  unfold sendFi
  by_cases h : 512 ≤ k
  · rw [if_pos (by simp only [List.length_cons]; omega), if_pos h]
    exact ⟨rfl, r, rfl, by omega⟩
  · rw [if_neg (by simp only [List.length_cons]; omega), if_neg h]
    exact ⟨rfl, r ++ [0], rfl, by simp only [List.length_append, List.length_cons, List.length_nil]; omega⟩

set_option maxRecDepth 100000 in
set_option maxHeartbeats 1600000 in
theorem walk (n0 : Nat) (w : World) (hn0 : n0 < 256) :
    Calls Try.prog 4 #[.int .u8 (n0 : Int)] w fun e w' => e = .returned (.bool true) ∧ Below w.heap.size w w' := by
  have HF := Lib.hid (fixed9_any w)
  obtain ⟨K, hK⟩ : ∃ K : Nat, K = 400 + n0 := ⟨_, rfl⟩
  have HK := Lib.hid (show 400 ≤ K ∧ K ≤ 655 by omega)
  have hm1 : IntKind.i64.wrap (n0 : Int) = (n0 : Int) := by rw [IntKind.wrap_i64]; omega
  have hm2 : IntKind.i64.wrap (400 + (n0 : Int)) = (K : Int) := by rw [IntKind.wrap_i64]; omega
  have hm3 : 400 + (n0 : Int) = (K : Int) := by omega
  have hm4 : wrap64 (K : Int) = (K : Int) := by unfold wrap64; omega
  have hm5 : IntKind.i64.wrap (K : Int) = (K : Int) := by rw [IntKind.wrap_i64]; omega
  clear hK
  go_enter Try.func4, Try.ntmps4
  go_wp2_with fail
  refine HF.out.mono ?_
  rintro e w1 ⟨rfl, hb1⟩
  go_wp2_with fail
  refine (iNew_any w1).mono ?_
  rintro e w2 ⟨g, rfl, hn2, hb2⟩
  go_wp2_with fail
  have HB1 := Lib.hid hb1
  have HB2 := Lib.hid hb2
  have HN2 := Lib.hid hn2
  clear hm1 hm2 hm3 hm4 hm5 hb1 hb2 hn2 HF hn0
  go_loopw [16] (fun iv wr => ∃ i : Nat, i ≤ K ∧ iv = .int .i64 (i : Int) ∧ (∃ f, iNet wr w1.heap.size g f (upI (min i 512))) ∧ Below w1.heap.size w1 wr) (fun iv _ => K - (intOf iv).toNat)
  case atStart => exact ⟨0, Nat.zero_le _, rfl, ⟨none, HN2.out⟩, HB2.out⟩
  case round =>
    obtain ⟨i, hi, rfl, ⟨f, hn⟩, hbel⟩ := hrel
    by_cases hlt : i < K
    · have hlt' : (i : Int) < (K : Int) := by omega
      have hq := iSend_any _ g _ _ (i : Int) wr hn hbel.size
      rw [upI_send] at hq
      have HQ := Lib.hid hq
      have HN := Lib.hid hn
      have HB := Lib.hid hbel
      have HL := Lib.hid hlt
      have hk1 : (i : Int) ≤ 655 := by have := HK.out; omega
      clear hq hn hbel hlt hi
      by_cases h5 : i < 512
      · have h5' : (i : Int) < 512 := by omega
        rw [if_pos h5] at HQ
        clear h5
        go_wp2_with fail
        refine HQ.out.mono ?_
        rintro e w3 ⟨rfl, hm⟩
        obtain ⟨f3, hn3, hb3⟩ := NetMoves.step (Nat.le_refl _) HB.out HN.out (Nat.le_refl _) hm
        have HN3 := Lib.hid hn3
        have HB3 := Lib.hid hb3
        clear hm hn3 hb3
        go_wp2_with fail
        go_roundw
        case rel => exact ⟨i + 1, HL.out, by go_num, ⟨f3, HN3.out⟩, HB3.out⟩
        case measure => have := HL.out; simp [intOf]; omega
      · have h5' : ¬ (i : Int) < 512 := by omega
        rw [if_neg h5] at HQ
        clear h5
        go_wp2_with fail
        refine HQ.out.mono ?_
        rintro e w3 ⟨rfl, hm⟩
        obtain ⟨f3, hn3, hb3⟩ := NetMoves.step (Nat.le_refl _) HB.out HN.out (Nat.le_refl _) hm
        have HN3 := Lib.hid hn3
        have HB3 := Lib.hid hb3
        clear hm hn3 hb3
        go_wp2_with fail
        go_roundw
        case rel => exact ⟨i + 1, HL.out, by go_num, ⟨f3, HN3.out⟩, HB3.out⟩
        case measure => have := HL.out; simp [intOf]; omega
    · have hlt' : ¬ (i : Int) < (K : Int) := by omega
      obtain rfl : i = K := by omega
      obtain ⟨r, hr, hrl⟩ := upI_head (min i 512) (by have := HK.out; omega)
      rw [hr] at hn
      obtain ⟨hd2, r', hd1, hr'⟩ := dbl i HK.out.1 HK.out.2 r hrl
      have hql := iLen_any _ g _ _ wr hn
      rw [show (((0 :: r : List Int).length : Nat) : Int) = min (i : Int) 512 by simp only [List.length_cons]; omega] at hql
      have hqd := iDouble_any _ g _ _ 0 wr hn (by simp) hbel.size
      rw [show (0 :: r : List Int)[0] = 0 from rfl, hd1, hd2] at hqd
      have HQL := Lib.hid hql
      have HQD := Lib.hid hqd
      have HN := Lib.hid hn
      have HB := Lib.hid hbel
      have HR := Lib.hid hr'
      have HLAST := Lib.hid (fun W f (h : iNet W w1.heap.size g f (0 :: r')) => iTake_any _ g f (0 :: r') 0 W h (by simp) (by simp only [List.length_cons]; omega))
      have HSEND := Lib.hid (fun W f (h : iNet W w1.heap.size g f r') hB => iSend_any _ g f r' 7 W h hB)
      have HRW := Lib.hid (show sendFi r' 7 = (r' ++ [7], 0) from if_neg (by omega))
      clear hql hqd hn hbel hr hrl hd1 hd2 hr' hi hlt
      by_cases h5 : 512 ≤ i
      · have h5' : (512 : Int) ≤ (i : Int) := by omega
        rw [if_pos h5] at HQD
        have hms : (min (i : Int) 512 = (i : Int) ∧ (i : Int) ≤ 512) ∨ (min (i : Int) 512 = 512 ∧ ¬ (i : Int) ≤ 512) := by omega
        rcases hms with ⟨hmm, hle⟩ | ⟨hmm, hle⟩
        all_goals
          rw [hmm] at HQL
          clear h5 hmm
          go_wp2_with fail
          refine HQL.out.mono ?_
          rintro e w3 ⟨rfl, rfl⟩
          go_wp2_with fail
          refine HQD.out.mono ?_
          rintro e w4 ⟨rfl, hm⟩
          obtain ⟨f4, hn4, hb4⟩ := NetMoves.step (Nat.le_refl _) HB.out HN.out (Nat.le_refl _) hm
          have HQT := Lib.hid (HLAST.out w4 f4 hn4)
          have HN4 := Lib.hid hn4
          have HB4 := Lib.hid hb4
          clear hm hn4 hb4
          go_wp2_with fail
          refine HQT.out.mono ?_
          rintro e w5 ⟨rfl, hm⟩
          obtain ⟨f5, hn5, hb5⟩ := NetMoves.step (Nat.le_refl _) HB4.out HN4.out (Nat.le_refl _) hm
          have hqs := HSEND.out w5 f5 hn5 hb5.size
          rw [HRW.out] at hqs
          have HQS := Lib.hid hqs
          have HN5 := Lib.hid hn5
          have HB5 := Lib.hid hb5
          clear hm hn5 hb5 hqs
          go_wp2_with fail
          refine HQS.out.mono ?_
          rintro e w6 ⟨rfl, hm⟩
          obtain ⟨f6, hn6, hb6⟩ := NetMoves.step (Nat.le_refl _) HB5.out HN5.out (Nat.le_refl _) hm
          have HB6 := Lib.hid hb6
          clear hm hn6 hb6
          go_wp2_with fail
          go_ret
          exact ⟨rfl, HB1.out.trans (HB6.out.mono HB1.out.size)⟩
      · have h5' : ¬ (512 : Int) ≤ (i : Int) := by omega
        have hle : (i : Int) ≤ 512 := by omega
        rw [if_neg h5] at HQD
        rw [show min (i : Int) 512 = (i : Int) by omega] at HQL
        clear h5
        go_wp2_with fail
        refine HQL.out.mono ?_
        rintro e w3 ⟨rfl, rfl⟩
        go_wp2_with fail
        refine HQD.out.mono ?_
        rintro e w4 ⟨rfl, hm⟩
        obtain ⟨f4, hn4, hb4⟩ := NetMoves.step (Nat.le_refl _) HB.out HN.out (Nat.le_refl _) hm
        have HQT := Lib.hid (HLAST.out w4 f4 hn4)
        have HN4 := Lib.hid hn4
        have HB4 := Lib.hid hb4
        clear hm hn4 hb4
        go_wp2_with fail
        refine HQT.out.mono ?_
        rintro e w5 ⟨rfl, hm⟩
        obtain ⟨f5, hn5, hb5⟩ := NetMoves.step (Nat.le_refl _) HB4.out HN4.out (Nat.le_refl _) hm
        have hqs := HSEND.out w5 f5 hn5 hb5.size
        rw [HRW.out] at hqs
        have HQS := Lib.hid hqs
        have HN5 := Lib.hid hn5
        have HB5 := Lib.hid hb5
        clear hm hn5 hb5 hqs
        go_wp2_with fail
        refine HQS.out.mono ?_
        rintro e w6 ⟨rfl, hm⟩
        obtain ⟨f6, hn6, hb6⟩ := NetMoves.step (Nat.le_refl _) HB5.out HN5.out (Nat.le_refl _) hm
        have HB6 := Lib.hid hb6
        clear hm hn6 hb6
        go_wp2_with fail
        go_ret
        exact ⟨rfl, HB1.out.trans (HB6.out.mono HB1.out.size)⟩

set_option maxRecDepth 100000 in
theorem lifted (os : Os) (started : os.Started) (H : Type) (enc : TypeId × Value → H) :
    ReturnsInHanded {} Try.checked os 4 .any (Rows.netFullSpec.pre6 enc Try.prog Try.f4 Rows.netFullRow.domain false) (Rows.netFullSpec.post enc Try.prog Try.f4 false true false false) := by
  refine returnsInHanded_of_change (C := Try.checked) own started (by kernel_rfl) Try.func4
    (ChangeSpec.witness6 (enc := enc) (C := Try.checked) false ⟨#[], #[.int .u8 0], []⟩ 8 (by kernel_rfl) (by kernel_rfl) (by kernel_rfl) (by kernel_rfl)) ?_
  intro W base args ds gs before hval0 hW hcnd _
  have hval : ∀ (j : Nat) t v, Try.f4.params[j]? = some t → args[j]? = some v → Value.okWide Try.prog W .any base t v := hval0
  have hW' := hW
  obtain ⟨p, q, hA0, hV, rfl, hfz, hnd⟩ := hW
  have hA : DataW.TrodAll enc Try.prog W 0 (fun _ => true) true Try.f4.params.toList args.toList ds p := hA0
  rw [Try.params4] at hA hval
  obtain ⟨v0, vs0, d0, ds0, p0, q0, hargs, rfl, rfl, h0, r0⟩ := trodAll_cons hA
  obtain ⟨rfl, rfl, rfl⟩ := trodAll_nil r0
  obtain rfl : args = #[v0] := by cases args; simp_all
  obtain ⟨rfl, rfl⟩ := trodVars_none hV
  obtain ⟨a0, rfl, rfl, rfl, w0⟩ := open_int Try.underlying5 (hval 0 5 v0 rfl rfl) h0
  have b0 : 0 ≤ a0 ∧ a0 ≤ 255 := bounds_u8 w0
  obtain ⟨n0, hn0⟩ : ∃ n : Nat, a0 = n := ⟨a0.toNat, by omega⟩
  subst hn0
  clear hA0 hval0
  simp only [List.append_nil] at hW'
  refine (walk n0 W (by omega)).mono fun e W' ⟨he, bel⟩ => ?_
  subst he
  exact ⟨_, rfl, _, _, _, [], [], [], hW', trodAll_mk1 (shut_bool Try.underlying4 _), (trodAll_cons_mk (shut_int Try.underlying5 w0) trodAll_mk0), rfl, bel.frame _, fun h => by cases h⟩

theorem over : Rows.netFullRow.holds Try.pinned (OpenSpec.ofChange Rows.netFullSpec) :=
  OpenClaim.holds_of_wide 4 Try.f4 rfl rfl rfl rfl rfl rfl rfl ⟨rfl, rfl, rfl, rfl, rfl⟩ rfl rfl rfl rfl rfl (by kernel_rfl) Try.func4 (by kernel_rfl)
    (of_decide_eq_true (by kernel_rfl)) (by unfold Func.isWrapper; first | (rw [if_pos (by decide +kernel)]; kernel_rfl) | (rw [if_neg (by decide +kernel)]; exact ⟨rfl, rfl⟩))
    (fun os started H enc _ => lifted os started H enc)

theorem proved : Rows.NetFullSaid :=
  over
#print axioms proved
end Go.Proofs.Ytpgohajnohebnab.netFull
