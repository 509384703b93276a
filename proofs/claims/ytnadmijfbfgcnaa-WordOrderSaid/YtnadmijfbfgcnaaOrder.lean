/- WordOrder: of numbers that aren't below 0 the lesser one's bytes come first, held as texts; no two have the same. For every two numbers, without a condition. -/
import Derived.Test.YtnadmijfbfgcnaaRows
import Derived.Test.YtnadmijfbfgcnaaFix1
import Derived.ProofKit
import Derived.Deep.RegionWith
import Derived.OpenShut
namespace Go.Proofs.Ytnadmijfbfgcnaa.wordOrder
open Go.ChangeShapes Go.WideShapes Go.ChangeAt Go.RowKit
set_option linter.unusedVariables false

theorem own : ownKnob Try.prog.godebug = none := by kernel_rfl

theorem _root_.Go.Proofs.Ytnadmijfbfgcnaa.RetBytes.at8 {w w' : World} {m : Int} {e : Ending} (h : RetBytes w ([] ++ be (u64n m) 8) e w') :
    ∃ A c, e = .returned (.slice A 8 c) ∧ Sees w' w'.heap.size A 8 (cbs (be (u64n m) 8)) ∧ Below w.heap.size w w' := by
  obtain ⟨A, c, h1, h2, _, _, h3⟩ := h.at (n := 8) (List.nil_append _) (by simp)
  exact ⟨A, c, h1, h2, h3⟩

theorem less_be (N M k : Nat) : Op.bytesLess (be N k) (be M k) = decide (N % 256 ^ k < M % 256 ^ k) := by
  induction k with
  | zero => simp [be, Op.bytesLess, Nat.mod_one]
  | succ k ih =>
    have hN : N % (256 ^ k * 256) = N % 256 ^ k + 256 ^ k * (N / 256 ^ k % 256) := Nat.mod_mul
    have hM : M % (256 ^ k * 256) = M % 256 ^ k + 256 ^ k * (M / 256 ^ k % 256) := Nat.mod_mul
    have hp : 0 < 256 ^ k := Nat.pow_pos (by omega)
    have hr := Nat.mod_lt N hp
    have hs := Nat.mod_lt M hp
    rw [Nat.pow_succ, hN, hM]
    simp only [be, Op.bytesLess, ih]
    have e1 : (UInt8.ofNat (N / 256 ^ k)).toNat = N / 256 ^ k % 256 := by simp
    have e2 : (UInt8.ofNat (M / 256 ^ k)).toNat = M / 256 ^ k % 256 := by simp
    generalize N / 256 ^ k % 256 = a at *
    generalize M / 256 ^ k % 256 = b at *
    generalize UInt8.ofNat (N / 256 ^ k) = x at *
    generalize UInt8.ofNat (M / 256 ^ k) = y at *
    generalize N % 256 ^ k = r at *
    generalize M % 256 ^ k = s at *
    generalize 256 ^ k = P at *
    have hx : (x < y) ↔ a < b := by rw [UInt8.lt_iff_toNat_lt, e1, e2]
    have hxy : (x == y) = decide (a = b) := by
      rw [Bool.eq_iff_iff, beq_iff_eq, decide_eq_true_iff, ← UInt8.toNat_inj, e1, e2]
    rw [hxy]
    rcases Nat.lt_trichotomy a b with h | h | h
    · have h1 : P * (a + 1) ≤ P * b := Nat.mul_le_mul_left P h
      rw [Nat.mul_add] at h1
      have h2 : r + P * a < s + P * b := by omega
      simp [hx, h, h2]
    · subst h
      simp [hx]
    · have h1 : P * (b + 1) ≤ P * a := Nat.mul_le_mul_left P h
      rw [Nat.mul_add] at h1
      have h2 : ¬ r + P * a < s + P * b := by omega
      have h3 : ¬ a < b := by omega
      have h4 : ¬ a = b := by omega
      simp [hx, h3, h4]
      omega

theorem u64n_inj {a b : Int} (ha : (Lit.int .i64 a).wf = true) (hb : (Lit.int .i64 b).wf = true) (h : u64n a = u64n b) : a = b := by
  have h1 := bounds_i64 ha
  have h2 := bounds_i64 hb
  unfold u64n at h
  omega
theorem eq_texts {a b : Int} (ha : (Lit.int .i64 a).wf = true) (hb : (Lit.int .i64 b).wf = true) :
    (be (u64n a) 8 == be (u64n b) 8) = (a == b) := by
  rw [Bool.eq_iff_iff, beq_iff_eq, beq_iff_eq]
  constructor
  · intro h
    exact u64n_inj ha hb (be_inj (u64n_lt a) (u64n_lt b) h)
  · intro h
    rw [h]
theorem less_texts {a b : Int} (ha : (Lit.int .i64 a).wf = true) (hb : (Lit.int .i64 b).wf = true) (h1 : 0 ≤ a) (h2 : 0 ≤ b) :
    Op.bytesLess (be (u64n a) 8) (be (u64n b) 8) = decide (a < b) := by
  have h3 := bounds_i64 ha
  have h4 := bounds_i64 hb
  have e : (256 : Nat) ^ 8 = 18446744073709551616 := by decide
  rw [less_be, e, Nat.mod_eq_of_lt (u64n_lt a), Nat.mod_eq_of_lt (u64n_lt b)]
  unfold u64n
  rw [Bool.eq_iff_iff, decide_eq_true_iff, decide_eq_true_iff]
  omega
theorem size_text (a : Int) : (⟨(be (u64n a) 8).toArray⟩ : ByteArray).size = 8 := by rw [← text_len]; simp

set_option maxHeartbeats 1600000 in
theorem walk (a0 : Int) (a1 : Int) (w0 : (Lit.int .i64 a0).wf = true) (w1' : (Lit.int .i64 a1).wf = true) (w : World) :
    Calls Try.prog 5 #[.int .i64 a0, .int .i64 a1] w fun e w' => e = .returned (.bool true) ∧ Below w.heap.size w w' := by
  go_enter Try.func5, Try.ntmps5
  go_wp2_with fail
  refine (fixed1_any _).mono ?_
  rintro e w1 ⟨rfl, hb1⟩
  go_wp2_with fail
  have hcv := fun W A n c l h => conv_sees (P := Try.prog) W 23 9 5 sl_u8 Try.underlying5 Try.underlying9 W.heap.size A n c l h
  have HC := Lib.hid hcv
  clear hcv
  have hk0 := u64n_lt a0
  go_region_with (first
    | (go_at_call_of 12 a0; refine (int_any none 0 0 [] a0 _ (Sees.none_ _ _ _) (by omega)).mono ?_; intro e wA hA; obtain ⟨A, cA, rfl, hsA, hbA⟩ := hA.at8; have hcA := HC.out wA A 8 cA _ hsA)
    | (go_at_call_of 12 a1; refine (int_any none 0 0 [] a1 _ (Sees.none_ _ _ _) (by omega)).mono ?_; intro e wB hB; obtain ⟨B, cB, rfl, hsB, hbB⟩ := hB.at8; have hcB := HC.out wB B 8 cB _ hsB; have hcA' := HC.out wB A 8 cA _ (hsA.on hbB)))
  all_goals
    clear hcA hcA' hcB hA hB hsA hsB HC hk0
    have hbw : Below w.heap.size w wB := bthen (bthen hb1.drew hbA) hbB
    clear hb1 hbA hbB
    have hz := size_text a0
    have he := eq_texts w0 w1'
    by_cases h0 : a0 < 0
    · go_wp2_with fail
      go_ret
      exact ⟨rfl, hbw⟩
    · by_cases h1 : a1 < 0
      · go_wp2_with fail
        go_ret
        exact ⟨rfl, hbw⟩
      · have hl := less_texts w0 w1' (by omega) (by omega)
        go_wp2_with fail
        go_ret
        exact ⟨rfl, hbw⟩

set_option maxRecDepth 100000 in
theorem lifted (os : Os) (started : os.Started) (H : Type) (enc : TypeId × Value → H) :
    ReturnsInHanded {} Try.checked os 5 .any (Rows.wordOrderSpec.pre6 enc Try.prog Try.f5 Rows.wordOrderRow.domain false) (Rows.wordOrderSpec.post enc Try.prog Try.f5 false true false false) := by
  refine returnsInHanded_of_change (C := Try.checked) own started (by kernel_rfl) Try.func5
    (ChangeSpec.witness6 (enc := enc) (C := Try.checked) false ⟨#[], #[.int .i64 0, .int .i64 0], []⟩ 8 (by kernel_rfl) (by kernel_rfl) (by kernel_rfl) (by kernel_rfl)) ?_
  intro W base args ds gs before hval0 hW hcnd _
  have hval : ∀ (j : Nat) t v, Try.f5.params[j]? = some t → args[j]? = some v → Value.okWide Try.prog W .any base t v := hval0
  have hW' := hW
  obtain ⟨p, q, hA0, hV, rfl, hfz, hnd⟩ := hW
  have hA : DataW.TrodAll enc Try.prog W 0 (fun _ => true) true Try.f5.params.toList args.toList ds p := hA0
  rw [Try.params5] at hA hval
  obtain ⟨v0, vs0, d0, ds0, p0, q0, hargs, rfl, rfl, h0, r0⟩ := trodAll_cons hA
  obtain ⟨v1, vs1, d1, ds1, p1, q1, rfl, rfl, rfl, h1, r1⟩ := trodAll_cons r0
  obtain ⟨rfl, rfl, rfl⟩ := trodAll_nil r1
  obtain rfl : args = #[v0, v1] := by cases args; simp_all
  obtain ⟨rfl, rfl⟩ := trodVars_none hV
  obtain ⟨a0, rfl, rfl, rfl, w0⟩ := open_int Try.underlying3 (hval 0 3 v0 rfl rfl) h0
  obtain ⟨a1, rfl, rfl, rfl, w1⟩ := open_int Try.underlying3 (hval 1 3 v1 rfl rfl) h1
  clear hA0 hval0
  simp only [List.append_nil] at hW'
  refine (walk a0 a1 w0 w1 W).mono fun e W' ⟨he, bel⟩ => ?_
  subst he
  exact ⟨_, rfl, _, _, _, [], [], [], hW', trodAll_mk1 (shut_bool Try.underlying4 _), (trodAll_cons_mk (shut_int Try.underlying3 w0) (trodAll_cons_mk (shut_int Try.underlying3 w1) trodAll_mk0)), rfl, bel.frame _, fun h => by cases h⟩

theorem over : Rows.wordOrderRow.holds Try.pinned (OpenSpec.ofChange Rows.wordOrderSpec) :=
  OpenClaim.holds_of_wide 5 Try.f5 rfl rfl rfl rfl rfl rfl rfl ⟨rfl, rfl, rfl, rfl, rfl⟩ rfl rfl rfl rfl rfl (by kernel_rfl) Try.func5 (by kernel_rfl)
    (of_decide_eq_true (by kernel_rfl)) (by unfold Func.isWrapper; first | (rw [if_pos (by decide +kernel)]; kernel_rfl) | (rw [if_neg (by decide +kernel)]; exact ⟨rfl, rfl⟩))
    (fun os started H enc _ => lifted os started H enc)

theorem proved : Rows.WordOrderSaid :=
  over
#print axioms proved
end Go.Proofs.Ytnadmijfbfgcnaa.wordOrder
